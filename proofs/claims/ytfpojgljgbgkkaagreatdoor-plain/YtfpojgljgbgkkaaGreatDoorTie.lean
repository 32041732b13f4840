/-
  DERIVED. GIVEN WITH THE SEED: THE PROGRAM's TIES (one call each: nine closed facts by the kernel) AND EACH ROW's TIE, after the 31st guide's Derived/Test/Toyas{Tie, Card}.lean. No idea stands in it: it is a product of the set-up. Laid BY PROGRAM, IN A SANDBOX (cutbox-door.mjs). By AI agents, Wed Nov 11 2026. No macro, syntax, notation, axiom, sorry.
-/
import Derived.Test.YtfpojgljgbgkkaaGreatDoorRows
import Derived.LaidByTextLater
import Derived.SevenTiedAt
import Derived.LaidSub
import Derived.LaidOnce
namespace Go.Proofs.YtfpojgljgbgkkaaGreatDoor
open Go
set_option maxRecDepth 100000
theorem seatTie1 : Tryz.prog.laidByTextLater [("errors.errorType", Rows.laid_errors_errorType), ("accord/wire.ErrValue", Rows.laid_accord_wire_ErrValue), ("accord/wire.ErrShort", Rows.laid_accord_wire_ErrShort), ("accord/wire.ErrMagic", Rows.laid_accord_wire_ErrMagic), ("accord/wire.ErrMore", Rows.laid_accord_wire_ErrMore), ("accord/wire.ErrSum", Rows.laid_accord_wire_ErrSum), ("accord/wire.ErrForm", Rows.laid_accord_wire_ErrForm)] [.handle, .sentinel, .sentinel, .sentinel, .sentinel, .sentinel, .sentinel] true :=
  Program.laidByTextLater_by_one 130 8 2 (by kernel_rfl) (by kernel_rfl) (by kernel_rfl) (by kernel_rfl) (by kernel_rfl) (by kernel_rfl) (fun _ _ => by kernel_rfl)
theorem noOwnUnsafe : Tryz.pinned.checked.prog.headLifts.contains "ownunsafe" = false := by kernel_rfl
theorem tie : Tryz.prog.laidByTextLater [("accord/wire.ErrValue", Rows.laid_accord_wire_ErrValue), ("accord/wire.ErrShort", Rows.laid_accord_wire_ErrShort), ("accord/wire.ErrMagic", Rows.laid_accord_wire_ErrMagic), ("accord/wire.ErrMore", Rows.laid_accord_wire_ErrMore), ("accord/wire.ErrSum", Rows.laid_accord_wire_ErrSum), ("accord/wire.ErrForm", Rows.laid_accord_wire_ErrForm)] [.sentinel, .sentinel, .sentinel, .sentinel, .sentinel, .sentinel] true :=
  Program.laidByTextLater.sub seatTie1 ["accord/wire.ErrValue", "accord/wire.ErrShort", "accord/wire.ErrMagic", "accord/wire.ErrMore", "accord/wire.ErrSum", "accord/wire.ErrForm"] (by kernel_rfl) (by kernel_rfl)
theorem steps_row_tie : Rows.stepsRow.laidByTextAt .later Tryz.pinned [.sentinel, .sentinel, .sentinel, .sentinel, .sentinel, .sentinel] true :=
  OpenClaim.laidByTextAt_later rfl rfl tie noOwnUnsafe
theorem plain_row_tie : Rows.plainRow.laidByTextAt .later Tryz.pinned [.sentinel, .sentinel, .sentinel, .sentinel, .sentinel, .sentinel] true :=
  OpenClaim.laidByTextAt_later rfl rfl tie noOwnUnsafe
theorem all_row_tie : Rows.allRow.laidByTextAt .later Tryz.pinned [.sentinel, .sentinel, .sentinel, .sentinel, .sentinel, .sentinel] true :=
  OpenClaim.laidByTextAt_later rfl rfl tie noOwnUnsafe
theorem agreed_row_tie : Rows.agreedRow.laidByTextAt .later Tryz.pinned [.sentinel, .sentinel, .sentinel, .sentinel, .sentinel, .sentinel] true :=
  OpenClaim.laidByTextAt_later rfl rfl tie noOwnUnsafe
theorem settled_row_tie : Rows.settledRow.laidByTextAt .later Tryz.pinned [.sentinel, .sentinel, .sentinel, .sentinel, .sentinel, .sentinel] true :=
  OpenClaim.laidByTextAt_later rfl rfl tie noOwnUnsafe
theorem tie2 : Tryz.prog.laidByTextLater [("errors.errorType", Rows.laid_errors_errorType), ("accord/wire.ErrValue", Rows.laid_accord_wire_ErrValue), ("accord/wire.ErrShort", Rows.laid_accord_wire_ErrShort), ("accord/wire.ErrMagic", Rows.laid_accord_wire_ErrMagic), ("accord/wire.ErrMore", Rows.laid_accord_wire_ErrMore), ("accord/wire.ErrSum", Rows.laid_accord_wire_ErrSum), ("accord/wire.ErrForm", Rows.laid_accord_wire_ErrForm)] [.handle, .sentinel, .sentinel, .sentinel, .sentinel, .sentinel, .sentinel] true :=
  Program.laidByTextLater.sub seatTie1 ["errors.errorType", "accord/wire.ErrValue", "accord/wire.ErrShort", "accord/wire.ErrMagic", "accord/wire.ErrMore", "accord/wire.ErrSum", "accord/wire.ErrForm"] (by kernel_rfl) (by kernel_rfl)
theorem safe_row_tie : Rows.safeRow.laidByTextAt .later Tryz.pinned [.handle, .sentinel, .sentinel, .sentinel, .sentinel, .sentinel, .sentinel] true :=
  OpenClaim.laidByTextAt_later rfl rfl tie2 noOwnUnsafe
theorem stepsUpto_row_tie : Rows.stepsUptoRow.laidByTextAt .later Tryz.pinned [.sentinel, .sentinel, .sentinel, .sentinel, .sentinel, .sentinel] true :=
  OpenClaim.laidByTextAt_later rfl rfl tie noOwnUnsafe
theorem plainUpto_row_tie : Rows.plainUptoRow.laidByTextAt .later Tryz.pinned [.sentinel, .sentinel, .sentinel, .sentinel, .sentinel, .sentinel] true :=
  OpenClaim.laidByTextAt_later rfl rfl tie noOwnUnsafe
theorem allUpto_row_tie : Rows.allUptoRow.laidByTextAt .later Tryz.pinned [.sentinel, .sentinel, .sentinel, .sentinel, .sentinel, .sentinel] true :=
  OpenClaim.laidByTextAt_later rfl rfl tie noOwnUnsafe
theorem agreedUpto_row_tie : Rows.agreedUptoRow.laidByTextAt .later Tryz.pinned [.sentinel, .sentinel, .sentinel, .sentinel, .sentinel, .sentinel] true :=
  OpenClaim.laidByTextAt_later rfl rfl tie noOwnUnsafe
theorem settledUpto_row_tie : Rows.settledUptoRow.laidByTextAt .later Tryz.pinned [.sentinel, .sentinel, .sentinel, .sentinel, .sentinel, .sentinel] true :=
  OpenClaim.laidByTextAt_later rfl rfl tie noOwnUnsafe
theorem safeUpto_row_tie : Rows.safeUptoRow.laidByTextAt .later Tryz.pinned [.handle, .sentinel, .sentinel, .sentinel, .sentinel, .sentinel, .sentinel] true :=
  OpenClaim.laidByTextAt_later rfl rfl tie2 noOwnUnsafe
end Go.Proofs.YtfpojgljgbgkkaaGreatDoor
