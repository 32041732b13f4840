/-
  NARROWER THAN 'FOR EVERY INPUT', by the rows' own cells (each row's printed sentence says how): Steps: laid · Plain: laid · All: laid · Agreed: laid · Settled: laid · Safe: laid.
  DERIVED. THE GIVEN ROWS OF THIS SEAT. 6 by the template 'for every input the law returns true; each argument reads behind the call as it read before'; 0 by the template 'total and deterministic' (their statements: YtfpojgljgbgkkaaGreatDoorTotals.lean).
  GIVEN WITH THE SEED: the statements are not yours to turn. If you find one false, say at which input.
  Laid BY PROGRAM, IN A SANDBOX (cutbox-rows.mjs): the forced cells as the released guide's own fill.sh prints them over the translation fa5f97db8c49bb25… (all of the seat's roots in one cut). By AI agents, Wed Nov 11 2026. No macro, syntax, notation, axiom, sorry.
-/
import Derived.Test.YtfpojgljgbgkkaaGreatDoorChecked
import GoSem.Claim
import GoSem.ClaimJoined
import GoSem.ClaimMapViews
import Derived.JoinedTies
import Derived.KernelRfl
namespace Go.Proofs.YtfpojgljgbgkkaaGreatDoor
/- THE CELL 'sum', in the pinned program and in every row, IS THE sha256 OF THE DUMP (.gsa) THAT YtfpojgljgbgkkaaGreatDoorProg.lean LOADS. Nothing in Lean hashes anything: it is a label: what it is worth is what the hold of that sum in a sandbox is worth. -/
noncomputable def Tryz.pinned : Pinned := { name := "ytfpojgljgbgkkaagreatdoor", sum := "fa5f97db8c49bb255b32a3067b48598efd8f9dd9b69381c46e8b4221e454ba8a", checked := Tryz.checked }
namespace Rows
def none {H : Type} : Left H := { results := [], args := [] }

/- WHAT THE LISTED PACKAGE-LEVEL VARIABLES READ AS WHEN THE CALL BEGINS. Each datum BY PROGRAM (the guide's laid-datum.mjs) off the statement by which the dump's own 'gosem.cut.vars' lays the variable. In a bare row this is a premise. The card (YtfpojgljgbgkkaaGreatDoorCards.lean) ties it to the program's text. -/
def laid_accord_wire_ErrValue {H : Type} : DataW H := .iface "*errors.errorString" (.ptr (.agg [.lit (.string [105, 116, 32, 99, 97, 110, 39, 116, 32, 98, 101, 32, 119, 114, 105, 116, 116, 101, 110])]))
def laid_accord_wire_ErrShort {H : Type} : DataW H := .iface "*errors.errorString" (.ptr (.agg [.lit (.string [116, 104, 101, 32, 98, 121, 116, 101, 115, 32, 101, 110, 100, 32, 116, 111, 111, 32, 101, 97, 114, 108, 121])]))
def laid_accord_wire_ErrMagic {H : Type} : DataW H := .iface "*errors.errorString" (.ptr (.agg [.lit (.string [116, 104, 101, 32, 98, 121, 116, 101, 115, 32, 98, 101, 103, 105, 110, 32, 119, 114, 111, 110, 103, 108, 121])]))
def laid_accord_wire_ErrMore {H : Type} : DataW H := .iface "*errors.errorString" (.ptr (.agg [.lit (.string [116, 104, 101, 114, 101, 32, 97, 114, 101, 32, 98, 121, 116, 101, 115, 32, 98, 101, 104, 105, 110, 100, 32, 116, 104, 101, 32, 101, 110, 100])]))
def laid_accord_wire_ErrSum {H : Type} : DataW H := .iface "*errors.errorString" (.ptr (.agg [.lit (.string [116, 104, 101, 32, 115, 117, 109, 32, 105, 115, 32, 119, 114, 111, 110, 103])]))
def laid_accord_wire_ErrForm {H : Type} : DataW H := .iface "*errors.errorString" (.ptr (.agg [.lit (.string [116, 104, 101, 32, 99, 111, 110, 116, 101, 110, 116, 32, 105, 115, 32, 110, 111, 110, 101])]))
def laid_errors_errorType {H : Type} : DataW H := .iface "internal/reflectlite.rtype" (.agg [.ptr (.lit (.string [101, 114, 114, 111, 114]))])

/-- 'accordlaw.Steps': WHATEVER THE INPUT: true; the input reads as it did. -/
def stepsSpec : ChangeSpec := { name := "steps", fn := fun _ => fun
  | [d] => { results := [.lit (.bool true)], args := [d] }
  | _ => none }
def stepsRow : OpenClaim := { program := "ytfpojgljgbgkkaagreatdoor", sum := "fa5f97db8c49bb255b32a3067b48598efd8f9dd9b69381c46e8b4221e454ba8a", func := "accord/accordlaw.Steps", spec := "steps", inPlace := ["internal/reflectlite.TypeOf", "(*sync.WaitGroup).Go", "(*sync.WaitGroup).Add", "internal/race.ReleaseMerge", "internal/race.Disable", "internal/race.Enable", "internal/synctest.IsInBubble", "internal/synctest.Associate[sync.WaitGroup]", "sync.fatal", "sync/atomic.OrUint64", "sync/atomic.AddUint64", "internal/race.Read", "sync/atomic.LoadUint64", "sync/atomic.StoreUint64", "internal/synctest.Disassociate[sync.WaitGroup]", "sync.runtime_Semrelease", "(*sync.WaitGroup).Go$1", "(*sync.WaitGroup).Go$1$1", "(*sync.WaitGroup).Done", "(*sync.WaitGroup).Wait", "internal/race.Acquire", "internal/synctest.IsAssociated[sync.WaitGroup]", "sync/atomic.CompareAndSwapUint64", "internal/race.Write", "sync.runtime_SemacquireWaitGroup"], unfollowed := true, recurses := true, named := ["accord/wire.ErrValue", "accord/wire.ErrShort", "accord/wire.ErrMagic", "accord/wire.ErrMore", "accord/wire.ErrSum", "accord/wire.ErrForm"], plainKeys := false, apart := false, laid := [("accord/wire.ErrValue", laid_accord_wire_ErrValue), ("accord/wire.ErrShort", laid_accord_wire_ErrShort), ("accord/wire.ErrMagic", laid_accord_wire_ErrMagic), ("accord/wire.ErrMore", laid_accord_wire_ErrMore), ("accord/wire.ErrSum", laid_accord_wire_ErrSum), ("accord/wire.ErrForm", laid_accord_wire_ErrForm)] }
def StepsSaid : Prop := stepsRow.holds Tryz.pinned (OpenSpec.ofChange stepsSpec)

/-- ITS FALSE NEIGHBOUR: 'it returns false'. Refute it at one input. -/
def stepsWrong : ChangeSpec := { name := "steps", fn := fun _ => fun
  | [d] => { results := [.lit (.bool false)], args := [d] }
  | _ => none }
def StepsWrongFalsely : Prop := stepsRow.holds Tryz.pinned (OpenSpec.ofChange stepsWrong)

/-- 'accordkeep.Plain': WHATEVER THE INPUT: true; the input reads as it did. -/
def plainSpec : ChangeSpec := { name := "plain", fn := fun _ => fun
  | [d1, d2, d3] => { results := [.lit (.bool true)], args := [d1, d2, d3] }
  | _ => none }
def plainRow : OpenClaim := { program := "ytfpojgljgbgkkaagreatdoor", sum := "fa5f97db8c49bb255b32a3067b48598efd8f9dd9b69381c46e8b4221e454ba8a", func := "accord/accordkeep.Plain", spec := "plain", inPlace := ["internal/reflectlite.TypeOf"], unfollowed := true, recurses := true, named := ["accord/wire.ErrValue", "accord/wire.ErrShort", "accord/wire.ErrMagic", "accord/wire.ErrMore", "accord/wire.ErrSum", "accord/wire.ErrForm"], plainKeys := false, apart := false, laid := [("accord/wire.ErrValue", laid_accord_wire_ErrValue), ("accord/wire.ErrShort", laid_accord_wire_ErrShort), ("accord/wire.ErrMagic", laid_accord_wire_ErrMagic), ("accord/wire.ErrMore", laid_accord_wire_ErrMore), ("accord/wire.ErrSum", laid_accord_wire_ErrSum), ("accord/wire.ErrForm", laid_accord_wire_ErrForm)] }
def PlainSaid : Prop := plainRow.holds Tryz.pinned (OpenSpec.ofChange plainSpec)

/-- ITS FALSE NEIGHBOUR: 'it returns false'. Refute it at one input. -/
def plainWrong : ChangeSpec := { name := "plain", fn := fun _ => fun
  | [d1, d2, d3] => { results := [.lit (.bool false)], args := [d1, d2, d3] }
  | _ => none }
def PlainWrongFalsely : Prop := plainRow.holds Tryz.pinned (OpenSpec.ofChange plainWrong)

/-- 'accordlaw.All': WHATEVER THE INPUT: true; the input reads as it did. -/
def allSpec : ChangeSpec := { name := "all", fn := fun _ => fun
  | [d] => { results := [.lit (.bool true)], args := [d] }
  | _ => none }
def allRow : OpenClaim := { program := "ytfpojgljgbgkkaagreatdoor", sum := "fa5f97db8c49bb255b32a3067b48598efd8f9dd9b69381c46e8b4221e454ba8a", func := "accord/accordlaw.All", spec := "all", inPlace := ["internal/reflectlite.TypeOf", "(*sync.WaitGroup).Go", "(*sync.WaitGroup).Add", "internal/race.ReleaseMerge", "internal/race.Disable", "internal/race.Enable", "internal/synctest.IsInBubble", "internal/synctest.Associate[sync.WaitGroup]", "sync.fatal", "sync/atomic.OrUint64", "sync/atomic.AddUint64", "internal/race.Read", "sync/atomic.LoadUint64", "sync/atomic.StoreUint64", "internal/synctest.Disassociate[sync.WaitGroup]", "sync.runtime_Semrelease", "(*sync.WaitGroup).Go$1", "(*sync.WaitGroup).Go$1$1", "(*sync.WaitGroup).Done", "(*sync.WaitGroup).Wait", "internal/race.Acquire", "internal/synctest.IsAssociated[sync.WaitGroup]", "sync/atomic.CompareAndSwapUint64", "internal/race.Write", "sync.runtime_SemacquireWaitGroup"], unfollowed := true, recurses := true, named := ["accord/wire.ErrValue", "accord/wire.ErrShort", "accord/wire.ErrMagic", "accord/wire.ErrMore", "accord/wire.ErrSum", "accord/wire.ErrForm"], plainKeys := false, apart := false, laid := [("accord/wire.ErrValue", laid_accord_wire_ErrValue), ("accord/wire.ErrShort", laid_accord_wire_ErrShort), ("accord/wire.ErrMagic", laid_accord_wire_ErrMagic), ("accord/wire.ErrMore", laid_accord_wire_ErrMore), ("accord/wire.ErrSum", laid_accord_wire_ErrSum), ("accord/wire.ErrForm", laid_accord_wire_ErrForm)] }
def AllSaid : Prop := allRow.holds Tryz.pinned (OpenSpec.ofChange allSpec)

/-- ITS FALSE NEIGHBOUR: 'it returns false'. Refute it at one input. -/
def allWrong : ChangeSpec := { name := "all", fn := fun _ => fun
  | [d] => { results := [.lit (.bool false)], args := [d] }
  | _ => none }
def AllWrongFalsely : Prop := allRow.holds Tryz.pinned (OpenSpec.ofChange allWrong)

/-- 'accordkeep.Agreed': WHATEVER THE INPUT: true; the input reads as it did. -/
def agreedSpec : ChangeSpec := { name := "agreed", fn := fun _ => fun
  | [d1, d2, d3] => { results := [.lit (.bool true)], args := [d1, d2, d3] }
  | _ => none }
def agreedRow : OpenClaim := { program := "ytfpojgljgbgkkaagreatdoor", sum := "fa5f97db8c49bb255b32a3067b48598efd8f9dd9b69381c46e8b4221e454ba8a", func := "accord/accordkeep.Agreed", spec := "agreed", inPlace := ["internal/reflectlite.TypeOf", "(*sync.WaitGroup).Go", "(*sync.WaitGroup).Add", "internal/race.ReleaseMerge", "internal/race.Disable", "internal/race.Enable", "internal/synctest.IsInBubble", "internal/synctest.Associate[sync.WaitGroup]", "sync.fatal", "sync/atomic.OrUint64", "sync/atomic.AddUint64", "internal/race.Read", "sync/atomic.LoadUint64", "sync/atomic.StoreUint64", "internal/synctest.Disassociate[sync.WaitGroup]", "sync.runtime_Semrelease", "(*sync.WaitGroup).Go$1", "(*sync.WaitGroup).Go$1$1", "(*sync.WaitGroup).Done", "(*sync.WaitGroup).Wait", "internal/race.Acquire", "internal/synctest.IsAssociated[sync.WaitGroup]", "sync/atomic.CompareAndSwapUint64", "internal/race.Write", "sync.runtime_SemacquireWaitGroup"], unfollowed := true, recurses := true, named := ["accord/wire.ErrValue", "accord/wire.ErrShort", "accord/wire.ErrMagic", "accord/wire.ErrMore", "accord/wire.ErrSum", "accord/wire.ErrForm"], plainKeys := false, apart := false, laid := [("accord/wire.ErrValue", laid_accord_wire_ErrValue), ("accord/wire.ErrShort", laid_accord_wire_ErrShort), ("accord/wire.ErrMagic", laid_accord_wire_ErrMagic), ("accord/wire.ErrMore", laid_accord_wire_ErrMore), ("accord/wire.ErrSum", laid_accord_wire_ErrSum), ("accord/wire.ErrForm", laid_accord_wire_ErrForm)] }
def AgreedSaid : Prop := agreedRow.holds Tryz.pinned (OpenSpec.ofChange agreedSpec)

/-- ITS FALSE NEIGHBOUR: 'it returns false'. Refute it at one input. -/
def agreedWrong : ChangeSpec := { name := "agreed", fn := fun _ => fun
  | [d1, d2, d3] => { results := [.lit (.bool false)], args := [d1, d2, d3] }
  | _ => none }
def AgreedWrongFalsely : Prop := agreedRow.holds Tryz.pinned (OpenSpec.ofChange agreedWrong)

/-- 'accordkeep.Settled': WHATEVER THE INPUT: true; the input reads as it did. -/
def settledSpec : ChangeSpec := { name := "settled", fn := fun _ => fun
  | [d1, d2, d3] => { results := [.lit (.bool true)], args := [d1, d2, d3] }
  | _ => none }
def settledRow : OpenClaim := { program := "ytfpojgljgbgkkaagreatdoor", sum := "fa5f97db8c49bb255b32a3067b48598efd8f9dd9b69381c46e8b4221e454ba8a", func := "accord/accordkeep.Settled", spec := "settled", inPlace := ["internal/reflectlite.TypeOf", "(*sync.WaitGroup).Go", "(*sync.WaitGroup).Add", "internal/race.ReleaseMerge", "internal/race.Disable", "internal/race.Enable", "internal/synctest.IsInBubble", "internal/synctest.Associate[sync.WaitGroup]", "sync.fatal", "sync/atomic.OrUint64", "sync/atomic.AddUint64", "internal/race.Read", "sync/atomic.LoadUint64", "sync/atomic.StoreUint64", "internal/synctest.Disassociate[sync.WaitGroup]", "sync.runtime_Semrelease", "(*sync.WaitGroup).Go$1", "(*sync.WaitGroup).Go$1$1", "(*sync.WaitGroup).Done", "(*sync.WaitGroup).Wait", "internal/race.Acquire", "internal/synctest.IsAssociated[sync.WaitGroup]", "sync/atomic.CompareAndSwapUint64", "internal/race.Write", "sync.runtime_SemacquireWaitGroup"], unfollowed := true, recurses := true, named := ["accord/wire.ErrValue", "accord/wire.ErrShort", "accord/wire.ErrMagic", "accord/wire.ErrMore", "accord/wire.ErrSum", "accord/wire.ErrForm"], plainKeys := false, apart := false, laid := [("accord/wire.ErrValue", laid_accord_wire_ErrValue), ("accord/wire.ErrShort", laid_accord_wire_ErrShort), ("accord/wire.ErrMagic", laid_accord_wire_ErrMagic), ("accord/wire.ErrMore", laid_accord_wire_ErrMore), ("accord/wire.ErrSum", laid_accord_wire_ErrSum), ("accord/wire.ErrForm", laid_accord_wire_ErrForm)] }
def SettledSaid : Prop := settledRow.holds Tryz.pinned (OpenSpec.ofChange settledSpec)

/-- ITS FALSE NEIGHBOUR: 'it returns false'. Refute it at one input. -/
def settledWrong : ChangeSpec := { name := "settled", fn := fun _ => fun
  | [d1, d2, d3] => { results := [.lit (.bool false)], args := [d1, d2, d3] }
  | _ => none }
def SettledWrongFalsely : Prop := settledRow.holds Tryz.pinned (OpenSpec.ofChange settledWrong)

/-- 'accordkeep.Safe': WHATEVER THE INPUT: true; the input reads as it did. -/
def safeSpec : ChangeSpec := { name := "safe", fn := fun _ => fun
  | [d1, d2, d3] => { results := [.lit (.bool true)], args := [d1, d2, d3] }
  | _ => none }
def safeRow : OpenClaim := { program := "ytfpojgljgbgkkaagreatdoor", sum := "fa5f97db8c49bb255b32a3067b48598efd8f9dd9b69381c46e8b4221e454ba8a", func := "accord/accordkeep.Safe", spec := "safe", inPlace := ["internal/reflectlite.TypeOf", "(*sync.WaitGroup).Go", "(*sync.WaitGroup).Add", "internal/race.ReleaseMerge", "internal/race.Disable", "internal/race.Enable", "internal/synctest.IsInBubble", "internal/synctest.Associate[sync.WaitGroup]", "sync.fatal", "sync/atomic.OrUint64", "sync/atomic.AddUint64", "internal/race.Read", "sync/atomic.LoadUint64", "sync/atomic.StoreUint64", "internal/synctest.Disassociate[sync.WaitGroup]", "sync.runtime_Semrelease", "(*sync.WaitGroup).Go$1", "(*sync.WaitGroup).Go$1$1", "(*sync.WaitGroup).Done", "(*sync.WaitGroup).Wait", "internal/race.Acquire", "internal/synctest.IsAssociated[sync.WaitGroup]", "sync/atomic.CompareAndSwapUint64", "internal/race.Write", "sync.runtime_SemacquireWaitGroup", "internal/reflectlite.ValueOf", "(internal/reflectlite.Value).Type", "(internal/reflectlite.Value).IsNil", "(internal/reflectlite.Value).Elem", "(internal/reflectlite.Value).Set"], unfollowed := true, recurses := true, named := ["accord/wire.ErrValue", "accord/wire.ErrShort", "accord/wire.ErrMagic", "accord/wire.ErrMore", "accord/wire.ErrSum", "accord/wire.ErrForm", "errors.errorType"], plainKeys := false, apart := false, laid := [("errors.errorType", laid_errors_errorType), ("accord/wire.ErrValue", laid_accord_wire_ErrValue), ("accord/wire.ErrShort", laid_accord_wire_ErrShort), ("accord/wire.ErrMagic", laid_accord_wire_ErrMagic), ("accord/wire.ErrMore", laid_accord_wire_ErrMore), ("accord/wire.ErrSum", laid_accord_wire_ErrSum), ("accord/wire.ErrForm", laid_accord_wire_ErrForm)] }
def SafeSaid : Prop := safeRow.holds Tryz.pinned (OpenSpec.ofChange safeSpec)

/-- ITS FALSE NEIGHBOUR: 'it returns false'. Refute it at one input. -/
def safeWrong : ChangeSpec := { name := "safe", fn := fun _ => fun
  | [d1, d2, d3] => { results := [.lit (.bool false)], args := [d1, d2, d3] }
  | _ => none }
def SafeWrongFalsely : Prop := safeRow.holds Tryz.pinned (OpenSpec.ofChange safeWrong)

/- THE SECOND FORM. 'bulk': how many values and letters a reading holds, each counted each time it is reached (what is shared counts as often as it is met; a slice's spare places count too). A statement '..UptoSaid' is the law's where the arguments, and the package variables that the reading takes, are together of bulk at most 1048576: NARROWER than '..Said'. Prove '..Said' where nothing that the law and all that it calls make is longer than what came in: it says more and counts as full. Else prove '..UptoSaid'. A law counts once. -/
mutual
def uptoBulk {H : Type} : DataW H → Nat
  | .lit (.string bytes) => bytes.length + 1
  | .lit _ => 1
  | .nil => 1
  | .ptr d => uptoBulk d + 1
  | .slice elems spare => uptoBulkAll elems + uptoBulkAll spare + 1
  | .agg parts => uptoBulkAll parts + 1
  | .iface _ d => uptoBulk d + 1
  | .map entries => uptoBulkEntries entries + 1
  | .held _ => 1
def uptoBulkAll {H : Type} : List (DataW H) → Nat
  | [] => 0
  | d :: r => uptoBulk d + uptoBulkAll r
def uptoBulkEntries {H : Type} : List (Lit × DataW H) → Nat
  | [] => 0
  | x :: r => uptoBulkEntry x + uptoBulkEntries r
def uptoBulkEntry {H : Type} : Lit × DataW H → Nat
  | (.string bytes, d) => bytes.length + uptoBulk d + 1
  | (_, d) => uptoBulk d + 1
 end
def uptoSmall : (H : Type) → List (DataW H) → Bool := fun _ ds => decide (uptoBulkAll ds ≤ 1048576)
def OpenSpec.upto (s : _root_.Go.ChangeSpec) : _root_.Go.OpenSpec := { _root_.Go.OpenSpec.ofChange s with cond := some uptoSmall }

/-- 'accordlaw.Steps', WHERE WHAT IT READS IS OF BULK AT MOST 1048576: true; the input reads as it did. -/
def stepsUptoRow : OpenClaim := { program := "ytfpojgljgbgkkaagreatdoor", sum := "fa5f97db8c49bb255b32a3067b48598efd8f9dd9b69381c46e8b4221e454ba8a", func := "accord/accordlaw.Steps", spec := "steps", inPlace := ["internal/reflectlite.TypeOf", "(*sync.WaitGroup).Go", "(*sync.WaitGroup).Add", "internal/race.ReleaseMerge", "internal/race.Disable", "internal/race.Enable", "internal/synctest.IsInBubble", "internal/synctest.Associate[sync.WaitGroup]", "sync.fatal", "sync/atomic.OrUint64", "sync/atomic.AddUint64", "internal/race.Read", "sync/atomic.LoadUint64", "sync/atomic.StoreUint64", "internal/synctest.Disassociate[sync.WaitGroup]", "sync.runtime_Semrelease", "(*sync.WaitGroup).Go$1", "(*sync.WaitGroup).Go$1$1", "(*sync.WaitGroup).Done", "(*sync.WaitGroup).Wait", "internal/race.Acquire", "internal/synctest.IsAssociated[sync.WaitGroup]", "sync/atomic.CompareAndSwapUint64", "internal/race.Write", "sync.runtime_SemacquireWaitGroup"], unfollowed := true, recurses := true, named := ["accord/wire.ErrValue", "accord/wire.ErrShort", "accord/wire.ErrMagic", "accord/wire.ErrMore", "accord/wire.ErrSum", "accord/wire.ErrForm"], plainKeys := false, apart := false, laid := [("accord/wire.ErrValue", laid_accord_wire_ErrValue), ("accord/wire.ErrShort", laid_accord_wire_ErrShort), ("accord/wire.ErrMagic", laid_accord_wire_ErrMagic), ("accord/wire.ErrMore", laid_accord_wire_ErrMore), ("accord/wire.ErrSum", laid_accord_wire_ErrSum), ("accord/wire.ErrForm", laid_accord_wire_ErrForm)], narrowed := true }
def StepsUptoSaid : Prop := stepsUptoRow.holds Tryz.pinned (OpenSpec.upto stepsSpec)

/-- 'accordkeep.Plain', WHERE WHAT IT READS IS OF BULK AT MOST 1048576: true; the input reads as it did. -/
def plainUptoRow : OpenClaim := { program := "ytfpojgljgbgkkaagreatdoor", sum := "fa5f97db8c49bb255b32a3067b48598efd8f9dd9b69381c46e8b4221e454ba8a", func := "accord/accordkeep.Plain", spec := "plain", inPlace := ["internal/reflectlite.TypeOf"], unfollowed := true, recurses := true, named := ["accord/wire.ErrValue", "accord/wire.ErrShort", "accord/wire.ErrMagic", "accord/wire.ErrMore", "accord/wire.ErrSum", "accord/wire.ErrForm"], plainKeys := false, apart := false, laid := [("accord/wire.ErrValue", laid_accord_wire_ErrValue), ("accord/wire.ErrShort", laid_accord_wire_ErrShort), ("accord/wire.ErrMagic", laid_accord_wire_ErrMagic), ("accord/wire.ErrMore", laid_accord_wire_ErrMore), ("accord/wire.ErrSum", laid_accord_wire_ErrSum), ("accord/wire.ErrForm", laid_accord_wire_ErrForm)], narrowed := true }
def PlainUptoSaid : Prop := plainUptoRow.holds Tryz.pinned (OpenSpec.upto plainSpec)

/-- 'accordlaw.All', WHERE WHAT IT READS IS OF BULK AT MOST 1048576: true; the input reads as it did. -/
def allUptoRow : OpenClaim := { program := "ytfpojgljgbgkkaagreatdoor", sum := "fa5f97db8c49bb255b32a3067b48598efd8f9dd9b69381c46e8b4221e454ba8a", func := "accord/accordlaw.All", spec := "all", inPlace := ["internal/reflectlite.TypeOf", "(*sync.WaitGroup).Go", "(*sync.WaitGroup).Add", "internal/race.ReleaseMerge", "internal/race.Disable", "internal/race.Enable", "internal/synctest.IsInBubble", "internal/synctest.Associate[sync.WaitGroup]", "sync.fatal", "sync/atomic.OrUint64", "sync/atomic.AddUint64", "internal/race.Read", "sync/atomic.LoadUint64", "sync/atomic.StoreUint64", "internal/synctest.Disassociate[sync.WaitGroup]", "sync.runtime_Semrelease", "(*sync.WaitGroup).Go$1", "(*sync.WaitGroup).Go$1$1", "(*sync.WaitGroup).Done", "(*sync.WaitGroup).Wait", "internal/race.Acquire", "internal/synctest.IsAssociated[sync.WaitGroup]", "sync/atomic.CompareAndSwapUint64", "internal/race.Write", "sync.runtime_SemacquireWaitGroup"], unfollowed := true, recurses := true, named := ["accord/wire.ErrValue", "accord/wire.ErrShort", "accord/wire.ErrMagic", "accord/wire.ErrMore", "accord/wire.ErrSum", "accord/wire.ErrForm"], plainKeys := false, apart := false, laid := [("accord/wire.ErrValue", laid_accord_wire_ErrValue), ("accord/wire.ErrShort", laid_accord_wire_ErrShort), ("accord/wire.ErrMagic", laid_accord_wire_ErrMagic), ("accord/wire.ErrMore", laid_accord_wire_ErrMore), ("accord/wire.ErrSum", laid_accord_wire_ErrSum), ("accord/wire.ErrForm", laid_accord_wire_ErrForm)], narrowed := true }
def AllUptoSaid : Prop := allUptoRow.holds Tryz.pinned (OpenSpec.upto allSpec)

/-- 'accordkeep.Agreed', WHERE WHAT IT READS IS OF BULK AT MOST 1048576: true; the input reads as it did. -/
def agreedUptoRow : OpenClaim := { program := "ytfpojgljgbgkkaagreatdoor", sum := "fa5f97db8c49bb255b32a3067b48598efd8f9dd9b69381c46e8b4221e454ba8a", func := "accord/accordkeep.Agreed", spec := "agreed", inPlace := ["internal/reflectlite.TypeOf", "(*sync.WaitGroup).Go", "(*sync.WaitGroup).Add", "internal/race.ReleaseMerge", "internal/race.Disable", "internal/race.Enable", "internal/synctest.IsInBubble", "internal/synctest.Associate[sync.WaitGroup]", "sync.fatal", "sync/atomic.OrUint64", "sync/atomic.AddUint64", "internal/race.Read", "sync/atomic.LoadUint64", "sync/atomic.StoreUint64", "internal/synctest.Disassociate[sync.WaitGroup]", "sync.runtime_Semrelease", "(*sync.WaitGroup).Go$1", "(*sync.WaitGroup).Go$1$1", "(*sync.WaitGroup).Done", "(*sync.WaitGroup).Wait", "internal/race.Acquire", "internal/synctest.IsAssociated[sync.WaitGroup]", "sync/atomic.CompareAndSwapUint64", "internal/race.Write", "sync.runtime_SemacquireWaitGroup"], unfollowed := true, recurses := true, named := ["accord/wire.ErrValue", "accord/wire.ErrShort", "accord/wire.ErrMagic", "accord/wire.ErrMore", "accord/wire.ErrSum", "accord/wire.ErrForm"], plainKeys := false, apart := false, laid := [("accord/wire.ErrValue", laid_accord_wire_ErrValue), ("accord/wire.ErrShort", laid_accord_wire_ErrShort), ("accord/wire.ErrMagic", laid_accord_wire_ErrMagic), ("accord/wire.ErrMore", laid_accord_wire_ErrMore), ("accord/wire.ErrSum", laid_accord_wire_ErrSum), ("accord/wire.ErrForm", laid_accord_wire_ErrForm)], narrowed := true }
def AgreedUptoSaid : Prop := agreedUptoRow.holds Tryz.pinned (OpenSpec.upto agreedSpec)

/-- 'accordkeep.Settled', WHERE WHAT IT READS IS OF BULK AT MOST 1048576: true; the input reads as it did. -/
def settledUptoRow : OpenClaim := { program := "ytfpojgljgbgkkaagreatdoor", sum := "fa5f97db8c49bb255b32a3067b48598efd8f9dd9b69381c46e8b4221e454ba8a", func := "accord/accordkeep.Settled", spec := "settled", inPlace := ["internal/reflectlite.TypeOf", "(*sync.WaitGroup).Go", "(*sync.WaitGroup).Add", "internal/race.ReleaseMerge", "internal/race.Disable", "internal/race.Enable", "internal/synctest.IsInBubble", "internal/synctest.Associate[sync.WaitGroup]", "sync.fatal", "sync/atomic.OrUint64", "sync/atomic.AddUint64", "internal/race.Read", "sync/atomic.LoadUint64", "sync/atomic.StoreUint64", "internal/synctest.Disassociate[sync.WaitGroup]", "sync.runtime_Semrelease", "(*sync.WaitGroup).Go$1", "(*sync.WaitGroup).Go$1$1", "(*sync.WaitGroup).Done", "(*sync.WaitGroup).Wait", "internal/race.Acquire", "internal/synctest.IsAssociated[sync.WaitGroup]", "sync/atomic.CompareAndSwapUint64", "internal/race.Write", "sync.runtime_SemacquireWaitGroup"], unfollowed := true, recurses := true, named := ["accord/wire.ErrValue", "accord/wire.ErrShort", "accord/wire.ErrMagic", "accord/wire.ErrMore", "accord/wire.ErrSum", "accord/wire.ErrForm"], plainKeys := false, apart := false, laid := [("accord/wire.ErrValue", laid_accord_wire_ErrValue), ("accord/wire.ErrShort", laid_accord_wire_ErrShort), ("accord/wire.ErrMagic", laid_accord_wire_ErrMagic), ("accord/wire.ErrMore", laid_accord_wire_ErrMore), ("accord/wire.ErrSum", laid_accord_wire_ErrSum), ("accord/wire.ErrForm", laid_accord_wire_ErrForm)], narrowed := true }
def SettledUptoSaid : Prop := settledUptoRow.holds Tryz.pinned (OpenSpec.upto settledSpec)

/-- 'accordkeep.Safe', WHERE WHAT IT READS IS OF BULK AT MOST 1048576: true; the input reads as it did. -/
def safeUptoRow : OpenClaim := { program := "ytfpojgljgbgkkaagreatdoor", sum := "fa5f97db8c49bb255b32a3067b48598efd8f9dd9b69381c46e8b4221e454ba8a", func := "accord/accordkeep.Safe", spec := "safe", inPlace := ["internal/reflectlite.TypeOf", "(*sync.WaitGroup).Go", "(*sync.WaitGroup).Add", "internal/race.ReleaseMerge", "internal/race.Disable", "internal/race.Enable", "internal/synctest.IsInBubble", "internal/synctest.Associate[sync.WaitGroup]", "sync.fatal", "sync/atomic.OrUint64", "sync/atomic.AddUint64", "internal/race.Read", "sync/atomic.LoadUint64", "sync/atomic.StoreUint64", "internal/synctest.Disassociate[sync.WaitGroup]", "sync.runtime_Semrelease", "(*sync.WaitGroup).Go$1", "(*sync.WaitGroup).Go$1$1", "(*sync.WaitGroup).Done", "(*sync.WaitGroup).Wait", "internal/race.Acquire", "internal/synctest.IsAssociated[sync.WaitGroup]", "sync/atomic.CompareAndSwapUint64", "internal/race.Write", "sync.runtime_SemacquireWaitGroup", "internal/reflectlite.ValueOf", "(internal/reflectlite.Value).Type", "(internal/reflectlite.Value).IsNil", "(internal/reflectlite.Value).Elem", "(internal/reflectlite.Value).Set"], unfollowed := true, recurses := true, named := ["accord/wire.ErrValue", "accord/wire.ErrShort", "accord/wire.ErrMagic", "accord/wire.ErrMore", "accord/wire.ErrSum", "accord/wire.ErrForm", "errors.errorType"], plainKeys := false, apart := false, laid := [("errors.errorType", laid_errors_errorType), ("accord/wire.ErrValue", laid_accord_wire_ErrValue), ("accord/wire.ErrShort", laid_accord_wire_ErrShort), ("accord/wire.ErrMagic", laid_accord_wire_ErrMagic), ("accord/wire.ErrMore", laid_accord_wire_ErrMore), ("accord/wire.ErrSum", laid_accord_wire_ErrSum), ("accord/wire.ErrForm", laid_accord_wire_ErrForm)], narrowed := true }
def SafeUptoSaid : Prop := safeUptoRow.holds Tryz.pinned (OpenSpec.upto safeSpec)

end Rows
end Go.Proofs.YtfpojgljgbgkkaaGreatDoor
