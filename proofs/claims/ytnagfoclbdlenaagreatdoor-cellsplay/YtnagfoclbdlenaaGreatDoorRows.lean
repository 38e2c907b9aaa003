/-
  NARROWER THAN 'FOR EVERY INPUT', by the rows' own cells (each row's printed sentence says how): CellsPlay: laid · CellsCrash: laid · CellsMany: laid · CellsRefuse: laid · CellsOwn: laid · CellsEnds: laid.
  DERIVED. THE GIVEN ROWS OF THIS SEAT. 6 by the template 'for every input the law returns true; each argument reads behind the call as it read before'; 0 by the template 'total and deterministic' (their statements: YtnagfoclbdlenaaGreatDoorTotals.lean).
  GIVEN WITH THE SEED: the statements are not yours to turn. If you find one false, say at which input.
  Laid BY PROGRAM, IN A SANDBOX (cutbox-rows.mjs): the forced cells as the released guide's own fill.sh prints them over the translation dea309c82b1e23eb… (all of the seat's roots in one cut). By AI agents, Wed Nov 11 2026. No macro, syntax, notation, axiom, sorry.
-/
import Derived.Test.YtnagfoclbdlenaaGreatDoorChecked
import GoSem.Claim
import GoSem.ClaimJoined
import GoSem.ClaimMapViews
import Derived.JoinedTies
import Derived.KernelRfl
namespace Go.Proofs.YtnagfoclbdlenaaGreatDoor
/- THE CELL 'sum', in the pinned program and in every row, IS THE sha256 OF THE DUMP (.gsa) THAT YtnagfoclbdlenaaGreatDoorProg.lean LOADS. Nothing in Lean hashes anything: it is a label: what it is worth is what the hold of that sum in a sandbox is worth. -/
noncomputable def Tryz.pinned : Pinned := { name := "ytnagfoclbdlenaagreatdoor", sum := "dea309c82b1e23eb82811351cf2ae35b0bfba8951e00f24b68cec8a32867160c", checked := Tryz.checked }
namespace Rows
def none {H : Type} : Left H := { results := [], args := [] }

/- WHAT THE LISTED PACKAGE-LEVEL VARIABLES READ AS WHEN THE CALL BEGINS. Each datum BY PROGRAM (the guide's laid-datum.mjs) off the statement by which the dump's own 'gosem.cut.vars' lays the variable. In a bare row this is a premise. The card (YtnagfoclbdlenaaGreatDoorCards.lean) ties it to the program's text. -/
def laid_errors_errorType {H : Type} : DataW H := .iface "internal/reflectlite.rtype" (.agg [.ptr (.lit (.string [101, 114, 114, 111, 114]))])
def laid_synodal_tape_errGoes {H : Type} : DataW H := .iface "*errors.errorString" (.ptr (.agg [.lit (.string [116, 104, 101, 32, 112, 111, 119, 101, 114, 32, 103, 111, 101, 115])]))
def laid_synodal_wire_halves {H : Type} : DataW H := .agg [.lit (.int .u32 0), .lit (.int .u32 274646895), .lit (.int .u32 549293790), .lit (.int .u32 820201905), .lit (.int .u32 1098587580), .lit (.int .u32 1361435347), .lit (.int .u32 1640403810), .lit (.int .u32 1905808397), .lit (.int .u32 2197175160), .lit (.int .u32 2460548119), .lit (.int .u32 2722870694), .lit (.int .u32 2987750089), .lit (.int .u32 3280807620), .lit (.int .u32 3553878443), .lit (.int .u32 3811616794), .lit (.int .u32 4084100981)]
def laid_synodal_wal_errPart {H : Type} : DataW H := .iface "*errors.errorString" (.ptr (.agg [.lit (.string [97, 32, 112, 97, 114, 116, 32, 111, 102, 32, 97, 32, 114, 101, 99, 111, 114, 100])]))

/-- 'synodallaw5.CellsPlay': WHATEVER THE INPUT: true; the input reads as it did. -/
def cellsPlaySpec : ChangeSpec := { name := "cellsPlay", fn := fun _ => fun
  | [d1, d2, d3] => { results := [.lit (.bool true)], args := [d1, d2, d3] }
  | _ => none }
def cellsPlayRow : OpenClaim := { program := "ytnagfoclbdlenaagreatdoor", sum := "dea309c82b1e23eb82811351cf2ae35b0bfba8951e00f24b68cec8a32867160c", func := "synodal/synodallaw5.CellsPlay", spec := "cellsPlay", inPlace := ["internal/reflectlite.ValueOf", "(internal/reflectlite.Value).Type", "(internal/reflectlite.Value).IsNil", "internal/reflectlite.TypeOf", "(internal/reflectlite.Value).Elem", "(internal/reflectlite.Value).Set", "maps.clone"], unfollowed := true, recurses := true, named := ["synodal/wal.errPart", "synodal/wire.halves", "errors.errorType", "synodal/tape.errGoes"], apart := false, laid := [("errors.errorType", laid_errors_errorType), ("synodal/tape.errGoes", laid_synodal_tape_errGoes), ("synodal/wire.halves", laid_synodal_wire_halves), ("synodal/wal.errPart", laid_synodal_wal_errPart)] }
def CellsPlaySaid : Prop := cellsPlayRow.holds Tryz.pinned (OpenSpec.ofChange cellsPlaySpec)

/-- ITS FALSE NEIGHBOUR: 'it returns false'. Refute it at one input. -/
def cellsPlayWrong : ChangeSpec := { name := "cellsPlay", fn := fun _ => fun
  | [d1, d2, d3] => { results := [.lit (.bool false)], args := [d1, d2, d3] }
  | _ => none }
def CellsPlayWrongFalsely : Prop := cellsPlayRow.holds Tryz.pinned (OpenSpec.ofChange cellsPlayWrong)

/-- 'synodallaw5.CellsCrash': WHATEVER THE INPUT: true; the input reads as it did. -/
def cellsCrashSpec : ChangeSpec := { name := "cellsCrash", fn := fun _ => fun
  | [d1, d2, d3, d4] => { results := [.lit (.bool true)], args := [d1, d2, d3, d4] }
  | _ => none }
def cellsCrashRow : OpenClaim := { program := "ytnagfoclbdlenaagreatdoor", sum := "dea309c82b1e23eb82811351cf2ae35b0bfba8951e00f24b68cec8a32867160c", func := "synodal/synodallaw5.CellsCrash", spec := "cellsCrash", inPlace := ["internal/reflectlite.ValueOf", "(internal/reflectlite.Value).Type", "(internal/reflectlite.Value).IsNil", "internal/reflectlite.TypeOf", "(internal/reflectlite.Value).Elem", "(internal/reflectlite.Value).Set", "maps.clone"], unfollowed := true, recurses := true, named := ["synodal/wal.errPart", "synodal/wire.halves", "errors.errorType", "synodal/tape.errGoes"], apart := false, laid := [("errors.errorType", laid_errors_errorType), ("synodal/tape.errGoes", laid_synodal_tape_errGoes), ("synodal/wire.halves", laid_synodal_wire_halves), ("synodal/wal.errPart", laid_synodal_wal_errPart)] }
def CellsCrashSaid : Prop := cellsCrashRow.holds Tryz.pinned (OpenSpec.ofChange cellsCrashSpec)

/-- ITS FALSE NEIGHBOUR: 'it returns false'. Refute it at one input. -/
def cellsCrashWrong : ChangeSpec := { name := "cellsCrash", fn := fun _ => fun
  | [d1, d2, d3, d4] => { results := [.lit (.bool false)], args := [d1, d2, d3, d4] }
  | _ => none }
def CellsCrashWrongFalsely : Prop := cellsCrashRow.holds Tryz.pinned (OpenSpec.ofChange cellsCrashWrong)

/-- 'synodallaw5.CellsMany': WHATEVER THE INPUT: true; the input reads as it did. -/
def cellsManySpec : ChangeSpec := { name := "cellsMany", fn := fun _ => fun
  | [d1, d2] => { results := [.lit (.bool true)], args := [d1, d2] }
  | _ => none }
def cellsManyRow : OpenClaim := { program := "ytnagfoclbdlenaagreatdoor", sum := "dea309c82b1e23eb82811351cf2ae35b0bfba8951e00f24b68cec8a32867160c", func := "synodal/synodallaw5.CellsMany", spec := "cellsMany", inPlace := ["internal/reflectlite.ValueOf", "(internal/reflectlite.Value).Type", "(internal/reflectlite.Value).IsNil", "internal/reflectlite.TypeOf", "(internal/reflectlite.Value).Elem", "(internal/reflectlite.Value).Set", "maps.clone"], unfollowed := true, recurses := true, named := ["synodal/wal.errPart", "synodal/wire.halves", "errors.errorType", "synodal/tape.errGoes"], apart := false, laid := [("errors.errorType", laid_errors_errorType), ("synodal/tape.errGoes", laid_synodal_tape_errGoes), ("synodal/wire.halves", laid_synodal_wire_halves), ("synodal/wal.errPart", laid_synodal_wal_errPart)] }
def CellsManySaid : Prop := cellsManyRow.holds Tryz.pinned (OpenSpec.ofChange cellsManySpec)

/-- ITS FALSE NEIGHBOUR: 'it returns false'. Refute it at one input. -/
def cellsManyWrong : ChangeSpec := { name := "cellsMany", fn := fun _ => fun
  | [d1, d2] => { results := [.lit (.bool false)], args := [d1, d2] }
  | _ => none }
def CellsManyWrongFalsely : Prop := cellsManyRow.holds Tryz.pinned (OpenSpec.ofChange cellsManyWrong)

/-- 'synodallaw5.CellsRefuse': WHATEVER THE INPUT: true; the input reads as it did. -/
def cellsRefuseSpec : ChangeSpec := { name := "cellsRefuse", fn := fun _ => fun
  | [d1, d2] => { results := [.lit (.bool true)], args := [d1, d2] }
  | _ => none }
def cellsRefuseRow : OpenClaim := { program := "ytnagfoclbdlenaagreatdoor", sum := "dea309c82b1e23eb82811351cf2ae35b0bfba8951e00f24b68cec8a32867160c", func := "synodal/synodallaw5.CellsRefuse", spec := "cellsRefuse", inPlace := ["internal/reflectlite.ValueOf", "(internal/reflectlite.Value).Type", "(internal/reflectlite.Value).IsNil", "internal/reflectlite.TypeOf", "(internal/reflectlite.Value).Elem", "(internal/reflectlite.Value).Set", "maps.clone"], unfollowed := true, recurses := true, named := ["synodal/wal.errPart", "synodal/wire.halves", "errors.errorType", "synodal/tape.errGoes"], apart := false, laid := [("errors.errorType", laid_errors_errorType), ("synodal/tape.errGoes", laid_synodal_tape_errGoes), ("synodal/wire.halves", laid_synodal_wire_halves), ("synodal/wal.errPart", laid_synodal_wal_errPart)] }
def CellsRefuseSaid : Prop := cellsRefuseRow.holds Tryz.pinned (OpenSpec.ofChange cellsRefuseSpec)

/-- ITS FALSE NEIGHBOUR: 'it returns false'. Refute it at one input. -/
def cellsRefuseWrong : ChangeSpec := { name := "cellsRefuse", fn := fun _ => fun
  | [d1, d2] => { results := [.lit (.bool false)], args := [d1, d2] }
  | _ => none }
def CellsRefuseWrongFalsely : Prop := cellsRefuseRow.holds Tryz.pinned (OpenSpec.ofChange cellsRefuseWrong)

/-- 'synodallaw5.CellsOwn': WHATEVER THE INPUT: true; the input reads as it did. -/
def cellsOwnSpec : ChangeSpec := { name := "cellsOwn", fn := fun _ => fun
  | [d1, d2, d3] => { results := [.lit (.bool true)], args := [d1, d2, d3] }
  | _ => none }
def cellsOwnRow : OpenClaim := { program := "ytnagfoclbdlenaagreatdoor", sum := "dea309c82b1e23eb82811351cf2ae35b0bfba8951e00f24b68cec8a32867160c", func := "synodal/synodallaw5.CellsOwn", spec := "cellsOwn", inPlace := ["internal/reflectlite.ValueOf", "(internal/reflectlite.Value).Type", "(internal/reflectlite.Value).IsNil", "internal/reflectlite.TypeOf", "(internal/reflectlite.Value).Elem", "(internal/reflectlite.Value).Set", "maps.clone"], unfollowed := true, recurses := true, named := ["synodal/wal.errPart", "synodal/wire.halves", "errors.errorType", "synodal/tape.errGoes"], apart := false, laid := [("errors.errorType", laid_errors_errorType), ("synodal/tape.errGoes", laid_synodal_tape_errGoes), ("synodal/wire.halves", laid_synodal_wire_halves), ("synodal/wal.errPart", laid_synodal_wal_errPart)] }
def CellsOwnSaid : Prop := cellsOwnRow.holds Tryz.pinned (OpenSpec.ofChange cellsOwnSpec)

/-- ITS FALSE NEIGHBOUR: 'it returns false'. Refute it at one input. -/
def cellsOwnWrong : ChangeSpec := { name := "cellsOwn", fn := fun _ => fun
  | [d1, d2, d3] => { results := [.lit (.bool false)], args := [d1, d2, d3] }
  | _ => none }
def CellsOwnWrongFalsely : Prop := cellsOwnRow.holds Tryz.pinned (OpenSpec.ofChange cellsOwnWrong)

/-- 'synodallaw5.CellsEnds': WHATEVER THE INPUT: true; the input reads as it did. -/
def cellsEndsSpec : ChangeSpec := { name := "cellsEnds", fn := fun _ => fun
  | [d1, d2, d3] => { results := [.lit (.bool true)], args := [d1, d2, d3] }
  | _ => none }
def cellsEndsRow : OpenClaim := { program := "ytnagfoclbdlenaagreatdoor", sum := "dea309c82b1e23eb82811351cf2ae35b0bfba8951e00f24b68cec8a32867160c", func := "synodal/synodallaw5.CellsEnds", spec := "cellsEnds", inPlace := ["internal/reflectlite.ValueOf", "(internal/reflectlite.Value).Type", "(internal/reflectlite.Value).IsNil", "internal/reflectlite.TypeOf", "(internal/reflectlite.Value).Elem", "(internal/reflectlite.Value).Set", "maps.clone"], unfollowed := true, recurses := true, named := ["synodal/wal.errPart", "synodal/wire.halves", "errors.errorType", "synodal/tape.errGoes"], apart := false, laid := [("errors.errorType", laid_errors_errorType), ("synodal/tape.errGoes", laid_synodal_tape_errGoes), ("synodal/wire.halves", laid_synodal_wire_halves), ("synodal/wal.errPart", laid_synodal_wal_errPart)] }
def CellsEndsSaid : Prop := cellsEndsRow.holds Tryz.pinned (OpenSpec.ofChange cellsEndsSpec)

/-- ITS FALSE NEIGHBOUR: 'it returns false'. Refute it at one input. -/
def cellsEndsWrong : ChangeSpec := { name := "cellsEnds", fn := fun _ => fun
  | [d1, d2, d3] => { results := [.lit (.bool false)], args := [d1, d2, d3] }
  | _ => none }
def CellsEndsWrongFalsely : Prop := cellsEndsRow.holds Tryz.pinned (OpenSpec.ofChange cellsEndsWrong)

/- THE SECOND FORM. 'bulk': how many values and letters a reading holds, each counted each time it is reached (what is shared counts as often as it is met; a slice's spare places count too). A statement '..UptoSaid' is the law's where the arguments, and the package variables that the reading takes, are together of bulk at most 1048576: NARROWER than '..Said'. Prove '..Said' where nothing that the law and all that it calls make is longer than what came in: it says more and counts as full. Else prove '..UptoSaid'. A law counts once. -/
mutual
def uptoBulk {H : Type} : DataW H → Nat
  | .lit (.string bytes) => bytes.length + 1
  | .lit _ => 1
  | .nil => 1
  | .ptr d => uptoBulk d + 1
  | .slice elems spare => uptoBulkAll elems + uptoBulkAll spare + 1
  | .agg parts => uptoBulkAll parts + 1
  | .iface _ d => uptoBulk d + 1
  | .map entries => uptoBulkEntries entries + 1
  | .held _ => 1
def uptoBulkAll {H : Type} : List (DataW H) → Nat
  | [] => 0
  | d :: r => uptoBulk d + uptoBulkAll r
def uptoBulkEntries {H : Type} : List (Lit × DataW H) → Nat
  | [] => 0
  | x :: r => uptoBulkEntry x + uptoBulkEntries r
def uptoBulkEntry {H : Type} : Lit × DataW H → Nat
  | (.string bytes, d) => bytes.length + uptoBulk d + 1
  | (_, d) => uptoBulk d + 1
 end
def uptoSmall : (H : Type) → List (DataW H) → Bool := fun _ ds => decide (uptoBulkAll ds ≤ 1048576)
def OpenSpec.upto (s : _root_.Go.ChangeSpec) : _root_.Go.OpenSpec := { _root_.Go.OpenSpec.ofChange s with cond := some uptoSmall }

/-- 'synodallaw5.CellsPlay', WHERE WHAT IT READS IS OF BULK AT MOST 1048576: true; the input reads as it did. -/
def cellsPlayUptoRow : OpenClaim := { program := "ytnagfoclbdlenaagreatdoor", sum := "dea309c82b1e23eb82811351cf2ae35b0bfba8951e00f24b68cec8a32867160c", func := "synodal/synodallaw5.CellsPlay", spec := "cellsPlay", inPlace := ["internal/reflectlite.ValueOf", "(internal/reflectlite.Value).Type", "(internal/reflectlite.Value).IsNil", "internal/reflectlite.TypeOf", "(internal/reflectlite.Value).Elem", "(internal/reflectlite.Value).Set", "maps.clone"], unfollowed := true, recurses := true, named := ["synodal/wal.errPart", "synodal/wire.halves", "errors.errorType", "synodal/tape.errGoes"], apart := false, laid := [("errors.errorType", laid_errors_errorType), ("synodal/tape.errGoes", laid_synodal_tape_errGoes), ("synodal/wire.halves", laid_synodal_wire_halves), ("synodal/wal.errPart", laid_synodal_wal_errPart)], narrowed := true }
def CellsPlayUptoSaid : Prop := cellsPlayUptoRow.holds Tryz.pinned (OpenSpec.upto cellsPlaySpec)

/-- 'synodallaw5.CellsCrash', WHERE WHAT IT READS IS OF BULK AT MOST 1048576: true; the input reads as it did. -/
def cellsCrashUptoRow : OpenClaim := { program := "ytnagfoclbdlenaagreatdoor", sum := "dea309c82b1e23eb82811351cf2ae35b0bfba8951e00f24b68cec8a32867160c", func := "synodal/synodallaw5.CellsCrash", spec := "cellsCrash", inPlace := ["internal/reflectlite.ValueOf", "(internal/reflectlite.Value).Type", "(internal/reflectlite.Value).IsNil", "internal/reflectlite.TypeOf", "(internal/reflectlite.Value).Elem", "(internal/reflectlite.Value).Set", "maps.clone"], unfollowed := true, recurses := true, named := ["synodal/wal.errPart", "synodal/wire.halves", "errors.errorType", "synodal/tape.errGoes"], apart := false, laid := [("errors.errorType", laid_errors_errorType), ("synodal/tape.errGoes", laid_synodal_tape_errGoes), ("synodal/wire.halves", laid_synodal_wire_halves), ("synodal/wal.errPart", laid_synodal_wal_errPart)], narrowed := true }
def CellsCrashUptoSaid : Prop := cellsCrashUptoRow.holds Tryz.pinned (OpenSpec.upto cellsCrashSpec)

/-- 'synodallaw5.CellsMany', WHERE WHAT IT READS IS OF BULK AT MOST 1048576: true; the input reads as it did. -/
def cellsManyUptoRow : OpenClaim := { program := "ytnagfoclbdlenaagreatdoor", sum := "dea309c82b1e23eb82811351cf2ae35b0bfba8951e00f24b68cec8a32867160c", func := "synodal/synodallaw5.CellsMany", spec := "cellsMany", inPlace := ["internal/reflectlite.ValueOf", "(internal/reflectlite.Value).Type", "(internal/reflectlite.Value).IsNil", "internal/reflectlite.TypeOf", "(internal/reflectlite.Value).Elem", "(internal/reflectlite.Value).Set", "maps.clone"], unfollowed := true, recurses := true, named := ["synodal/wal.errPart", "synodal/wire.halves", "errors.errorType", "synodal/tape.errGoes"], apart := false, laid := [("errors.errorType", laid_errors_errorType), ("synodal/tape.errGoes", laid_synodal_tape_errGoes), ("synodal/wire.halves", laid_synodal_wire_halves), ("synodal/wal.errPart", laid_synodal_wal_errPart)], narrowed := true }
def CellsManyUptoSaid : Prop := cellsManyUptoRow.holds Tryz.pinned (OpenSpec.upto cellsManySpec)

/-- 'synodallaw5.CellsRefuse', WHERE WHAT IT READS IS OF BULK AT MOST 1048576: true; the input reads as it did. -/
def cellsRefuseUptoRow : OpenClaim := { program := "ytnagfoclbdlenaagreatdoor", sum := "dea309c82b1e23eb82811351cf2ae35b0bfba8951e00f24b68cec8a32867160c", func := "synodal/synodallaw5.CellsRefuse", spec := "cellsRefuse", inPlace := ["internal/reflectlite.ValueOf", "(internal/reflectlite.Value).Type", "(internal/reflectlite.Value).IsNil", "internal/reflectlite.TypeOf", "(internal/reflectlite.Value).Elem", "(internal/reflectlite.Value).Set", "maps.clone"], unfollowed := true, recurses := true, named := ["synodal/wal.errPart", "synodal/wire.halves", "errors.errorType", "synodal/tape.errGoes"], apart := false, laid := [("errors.errorType", laid_errors_errorType), ("synodal/tape.errGoes", laid_synodal_tape_errGoes), ("synodal/wire.halves", laid_synodal_wire_halves), ("synodal/wal.errPart", laid_synodal_wal_errPart)], narrowed := true }
def CellsRefuseUptoSaid : Prop := cellsRefuseUptoRow.holds Tryz.pinned (OpenSpec.upto cellsRefuseSpec)

/-- 'synodallaw5.CellsOwn', WHERE WHAT IT READS IS OF BULK AT MOST 1048576: true; the input reads as it did. -/
def cellsOwnUptoRow : OpenClaim := { program := "ytnagfoclbdlenaagreatdoor", sum := "dea309c82b1e23eb82811351cf2ae35b0bfba8951e00f24b68cec8a32867160c", func := "synodal/synodallaw5.CellsOwn", spec := "cellsOwn", inPlace := ["internal/reflectlite.ValueOf", "(internal/reflectlite.Value).Type", "(internal/reflectlite.Value).IsNil", "internal/reflectlite.TypeOf", "(internal/reflectlite.Value).Elem", "(internal/reflectlite.Value).Set", "maps.clone"], unfollowed := true, recurses := true, named := ["synodal/wal.errPart", "synodal/wire.halves", "errors.errorType", "synodal/tape.errGoes"], apart := false, laid := [("errors.errorType", laid_errors_errorType), ("synodal/tape.errGoes", laid_synodal_tape_errGoes), ("synodal/wire.halves", laid_synodal_wire_halves), ("synodal/wal.errPart", laid_synodal_wal_errPart)], narrowed := true }
def CellsOwnUptoSaid : Prop := cellsOwnUptoRow.holds Tryz.pinned (OpenSpec.upto cellsOwnSpec)

/-- 'synodallaw5.CellsEnds', WHERE WHAT IT READS IS OF BULK AT MOST 1048576: true; the input reads as it did. -/
def cellsEndsUptoRow : OpenClaim := { program := "ytnagfoclbdlenaagreatdoor", sum := "dea309c82b1e23eb82811351cf2ae35b0bfba8951e00f24b68cec8a32867160c", func := "synodal/synodallaw5.CellsEnds", spec := "cellsEnds", inPlace := ["internal/reflectlite.ValueOf", "(internal/reflectlite.Value).Type", "(internal/reflectlite.Value).IsNil", "internal/reflectlite.TypeOf", "(internal/reflectlite.Value).Elem", "(internal/reflectlite.Value).Set", "maps.clone"], unfollowed := true, recurses := true, named := ["synodal/wal.errPart", "synodal/wire.halves", "errors.errorType", "synodal/tape.errGoes"], apart := false, laid := [("errors.errorType", laid_errors_errorType), ("synodal/tape.errGoes", laid_synodal_tape_errGoes), ("synodal/wire.halves", laid_synodal_wire_halves), ("synodal/wal.errPart", laid_synodal_wal_errPart)], narrowed := true }
def CellsEndsUptoSaid : Prop := cellsEndsUptoRow.holds Tryz.pinned (OpenSpec.upto cellsEndsSpec)

end Rows
end Go.Proofs.YtnagfoclbdlenaaGreatDoor
