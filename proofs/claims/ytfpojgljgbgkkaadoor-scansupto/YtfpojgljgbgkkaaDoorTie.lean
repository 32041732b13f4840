/-
  DERIVED. GIVEN WITH THE SEED: THE PROGRAM's TIES (one call each: nine closed facts by the kernel) AND EACH ROW's TIE, after the 31st guide's Derived/Test/Toyas{Tie, Card}.lean. No idea stands in it: it is a product of the set-up. Laid BY PROGRAM, IN A SANDBOX (cutbox-door.mjs). By AI agents, Wed Nov 11 2026. No macro, syntax, notation, axiom, sorry.
-/
import Derived.Test.YtfpojgljgbgkkaaDoorRows
import Derived.LaidByTextLater
import Derived.SevenTiedAt
import Derived.LaidSub
import Derived.LaidOnce
namespace Go.Proofs.YtfpojgljgbgkkaaDoor
open Go
set_option maxRecDepth 100000
theorem seatTie1 : Tryd.prog.laidByTextLater [("errors.errorType", Rows.laid_errors_errorType), ("accord/wire.ErrValue", Rows.laid_accord_wire_ErrValue), ("accord/wire.ErrShort", Rows.laid_accord_wire_ErrShort), ("accord/wire.ErrMagic", Rows.laid_accord_wire_ErrMagic), ("accord/wire.ErrMore", Rows.laid_accord_wire_ErrMore), ("accord/wire.ErrSum", Rows.laid_accord_wire_ErrSum), ("accord/wire.ErrForm", Rows.laid_accord_wire_ErrForm)] [.handle, .sentinel, .sentinel, .sentinel, .sentinel, .sentinel, .sentinel] true :=
  Program.laidByTextLater_by_one 130 8 2 (by kernel_rfl) (by kernel_rfl) (by kernel_rfl) (by kernel_rfl) (by kernel_rfl) (by kernel_rfl) (fun _ _ => by kernel_rfl)
theorem noOwnUnsafe : Tryd.pinned.checked.prog.headLifts.contains "ownunsafe" = false := by kernel_rfl
theorem tie : Tryd.prog.laidByTextLater [("accord/wire.ErrValue", Rows.laid_accord_wire_ErrValue), ("accord/wire.ErrShort", Rows.laid_accord_wire_ErrShort), ("accord/wire.ErrMagic", Rows.laid_accord_wire_ErrMagic), ("accord/wire.ErrMore", Rows.laid_accord_wire_ErrMore), ("accord/wire.ErrSum", Rows.laid_accord_wire_ErrSum), ("accord/wire.ErrForm", Rows.laid_accord_wire_ErrForm)] [.sentinel, .sentinel, .sentinel, .sentinel, .sentinel, .sentinel] true :=
  Program.laidByTextLater.sub seatTie1 ["accord/wire.ErrValue", "accord/wire.ErrShort", "accord/wire.ErrMagic", "accord/wire.ErrMore", "accord/wire.ErrSum", "accord/wire.ErrForm"] (by kernel_rfl) (by kernel_rfl)
theorem messages_row_tie : Rows.messagesRow.laidByTextAt .later Tryd.pinned [.sentinel, .sentinel, .sentinel, .sentinel, .sentinel, .sentinel] true :=
  OpenClaim.laidByTextAt_later rfl rfl tie noOwnUnsafe
theorem turned_row_tie : Rows.turnedRow.laidByTextAt .later Tryd.pinned [.sentinel, .sentinel, .sentinel, .sentinel, .sentinel, .sentinel] true :=
  OpenClaim.laidByTextAt_later rfl rfl tie noOwnUnsafe
theorem tie2 : Tryd.prog.laidByTextLater [("errors.errorType", Rows.laid_errors_errorType), ("accord/wire.ErrShort", Rows.laid_accord_wire_ErrShort), ("accord/wire.ErrMagic", Rows.laid_accord_wire_ErrMagic), ("accord/wire.ErrSum", Rows.laid_accord_wire_ErrSum), ("accord/wire.ErrForm", Rows.laid_accord_wire_ErrForm)] [.handle, .sentinel, .sentinel, .sentinel, .sentinel] true :=
  Program.laidByTextLater.sub seatTie1 ["errors.errorType", "accord/wire.ErrShort", "accord/wire.ErrMagic", "accord/wire.ErrSum", "accord/wire.ErrForm"] (by kernel_rfl) (by kernel_rfl)
theorem scans_row_tie : Rows.scansRow.laidByTextAt .later Tryd.pinned [.handle, .sentinel, .sentinel, .sentinel, .sentinel] true :=
  OpenClaim.laidByTextAt_later rfl rfl tie2 noOwnUnsafe
theorem messagesUpto_row_tie : Rows.messagesUptoRow.laidByTextAt .later Tryd.pinned [.sentinel, .sentinel, .sentinel, .sentinel, .sentinel, .sentinel] true :=
  OpenClaim.laidByTextAt_later rfl rfl tie noOwnUnsafe
theorem scansUpto_row_tie : Rows.scansUptoRow.laidByTextAt .later Tryd.pinned [.handle, .sentinel, .sentinel, .sentinel, .sentinel] true :=
  OpenClaim.laidByTextAt_later rfl rfl tie2 noOwnUnsafe
theorem turnedUpto_row_tie : Rows.turnedUptoRow.laidByTextAt .later Tryd.pinned [.sentinel, .sentinel, .sentinel, .sentinel, .sentinel, .sentinel] true :=
  OpenClaim.laidByTextAt_later rfl rfl tie noOwnUnsafe
end Go.Proofs.YtfpojgljgbgkkaaDoor
