/-
  DERIVED. GIVEN WITH THE SEED: THE PROGRAM's TIES (one call each: nine closed facts by the kernel) AND EACH ROW's TIE, after the 31st guide's Derived/Test/Toyas{Tie, Card}.lean. No idea stands in it: it is a product of the set-up. Laid BY PROGRAM, IN A SANDBOX (cutbox-door.mjs). By AI agents, Wed Nov 11 2026. No macro, syntax, notation, axiom, sorry.
-/
import Derived.Test.YtnagfoclbdlenaaGreatDoorRows
import Derived.LaidByTextLater
import Derived.SevenTiedAt
import Derived.LaidSub
import Derived.LaidOnce
namespace Go.Proofs.YtnagfoclbdlenaaGreatDoor
open Go
set_option maxRecDepth 100000
theorem seatTie1 : Tryz.prog.laidByTextLater [("errors.errorType", Rows.laid_errors_errorType), ("synodal/tape.errGoes", Rows.laid_synodal_tape_errGoes), ("synodal/wire.halves", Rows.laid_synodal_wire_halves), ("synodal/wal.errPart", Rows.laid_synodal_wal_errPart)] [.handle, .sentinel, .data, .sentinel] true :=
  Program.laidByTextLater_by_one 59 8 17 (by kernel_rfl) (by kernel_rfl) (by kernel_rfl) (by kernel_rfl) (by kernel_rfl) (by kernel_rfl) (fun _ _ => by kernel_rfl)
theorem noOwnUnsafe : Tryz.pinned.checked.prog.headLifts.contains "ownunsafe" = false := by kernel_rfl
theorem tie : Tryz.prog.laidByTextLater [("errors.errorType", Rows.laid_errors_errorType), ("synodal/tape.errGoes", Rows.laid_synodal_tape_errGoes), ("synodal/wire.halves", Rows.laid_synodal_wire_halves), ("synodal/wal.errPart", Rows.laid_synodal_wal_errPart)] [.handle, .sentinel, .data, .sentinel] true :=
  Program.laidByTextLater.sub seatTie1 ["errors.errorType", "synodal/tape.errGoes", "synodal/wire.halves", "synodal/wal.errPart"] (by kernel_rfl) (by kernel_rfl)
theorem cellsPlay_row_tie : Rows.cellsPlayRow.laidByTextAt .later Tryz.pinned [.handle, .sentinel, .data, .sentinel] true :=
  OpenClaim.laidByTextAt_later rfl rfl tie noOwnUnsafe
theorem cellsCrash_row_tie : Rows.cellsCrashRow.laidByTextAt .later Tryz.pinned [.handle, .sentinel, .data, .sentinel] true :=
  OpenClaim.laidByTextAt_later rfl rfl tie noOwnUnsafe
theorem cellsMany_row_tie : Rows.cellsManyRow.laidByTextAt .later Tryz.pinned [.handle, .sentinel, .data, .sentinel] true :=
  OpenClaim.laidByTextAt_later rfl rfl tie noOwnUnsafe
theorem cellsRefuse_row_tie : Rows.cellsRefuseRow.laidByTextAt .later Tryz.pinned [.handle, .sentinel, .data, .sentinel] true :=
  OpenClaim.laidByTextAt_later rfl rfl tie noOwnUnsafe
theorem cellsOwn_row_tie : Rows.cellsOwnRow.laidByTextAt .later Tryz.pinned [.handle, .sentinel, .data, .sentinel] true :=
  OpenClaim.laidByTextAt_later rfl rfl tie noOwnUnsafe
theorem cellsEnds_row_tie : Rows.cellsEndsRow.laidByTextAt .later Tryz.pinned [.handle, .sentinel, .data, .sentinel] true :=
  OpenClaim.laidByTextAt_later rfl rfl tie noOwnUnsafe
theorem cellsPlayUpto_row_tie : Rows.cellsPlayUptoRow.laidByTextAt .later Tryz.pinned [.handle, .sentinel, .data, .sentinel] true :=
  OpenClaim.laidByTextAt_later rfl rfl tie noOwnUnsafe
theorem cellsCrashUpto_row_tie : Rows.cellsCrashUptoRow.laidByTextAt .later Tryz.pinned [.handle, .sentinel, .data, .sentinel] true :=
  OpenClaim.laidByTextAt_later rfl rfl tie noOwnUnsafe
theorem cellsManyUpto_row_tie : Rows.cellsManyUptoRow.laidByTextAt .later Tryz.pinned [.handle, .sentinel, .data, .sentinel] true :=
  OpenClaim.laidByTextAt_later rfl rfl tie noOwnUnsafe
theorem cellsRefuseUpto_row_tie : Rows.cellsRefuseUptoRow.laidByTextAt .later Tryz.pinned [.handle, .sentinel, .data, .sentinel] true :=
  OpenClaim.laidByTextAt_later rfl rfl tie noOwnUnsafe
theorem cellsOwnUpto_row_tie : Rows.cellsOwnUptoRow.laidByTextAt .later Tryz.pinned [.handle, .sentinel, .data, .sentinel] true :=
  OpenClaim.laidByTextAt_later rfl rfl tie noOwnUnsafe
theorem cellsEndsUpto_row_tie : Rows.cellsEndsUptoRow.laidByTextAt .later Tryz.pinned [.handle, .sentinel, .data, .sentinel] true :=
  OpenClaim.laidByTextAt_later rfl rfl tie noOwnUnsafe
end Go.Proofs.YtnagfoclbdlenaaGreatDoor
