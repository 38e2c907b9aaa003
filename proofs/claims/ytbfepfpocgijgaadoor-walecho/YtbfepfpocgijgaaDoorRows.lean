/-
  NARROWER THAN 'FOR EVERY INPUT', by the rows' own cells (each row's printed sentence says how): WalPlays: laid · WalCrashes: laid · WalEcho: laid · WalLong: laid · WalKeeps: laid · WalTails: laid.
  DERIVED. THE GIVEN ROWS OF THIS SEAT. 6 by the template 'for every input the law returns true; each argument reads behind the call as it read before'; 0 by the template 'total and deterministic' (their statements: YtbfepfpocgijgaaDoorTotals.lean).
  GIVEN WITH THE SEED: the statements are not yours to turn. If you find one false, say at which input.
  Laid BY PROGRAM, IN A SANDBOX (cutbox-rows.mjs): the forced cells as the released guide's own fill.sh prints them over the translation 33f2ff5a17b6cbfa… (all of the seat's roots in one cut). By AI agents, Wed Nov 11 2026. No macro, syntax, notation, axiom, sorry.
-/
import Derived.Test.YtbfepfpocgijgaaDoorChecked
import GoSem.Claim
import GoSem.ClaimJoined
import GoSem.ClaimMapViews
import Derived.JoinedTies
import Derived.KernelRfl
namespace Go.Proofs.YtbfepfpocgijgaaDoor
/- THE CELL 'sum', in the pinned program and in every row, IS THE sha256 OF THE DUMP (.gsa) THAT YtbfepfpocgijgaaDoorProg.lean LOADS. Nothing in Lean hashes anything: it is a label: what it is worth is what the hold of that sum in a sandbox is worth. -/
noncomputable def Tryd.pinned : Pinned := { name := "ytbfepfpocgijgaadoor", sum := "33f2ff5a17b6cbfa6e1bdac5b2669b10169ccc831bc033999244e43f2c0fa2c8", checked := Tryd.checked }
namespace Rows
def none {H : Type} : Left H := { results := [], args := [] }

/- WHAT THE LISTED PACKAGE-LEVEL VARIABLES READ AS WHEN THE CALL BEGINS. Each datum BY PROGRAM (the guide's laid-datum.mjs) off the statement by which the dump's own 'gosem.cut.vars' lays the variable. In a bare row this is a premise. The card (YtbfepfpocgijgaaDoorCards.lean) ties it to the program's text. -/
def laid_errors_errorType {H : Type} : DataW H := .iface "internal/reflectlite.rtype" (.agg [.ptr (.lit (.string [101, 114, 114, 111, 114]))])
def laid_synodal_tape_errGoes {H : Type} : DataW H := .iface "*errors.errorString" (.ptr (.agg [.lit (.string [116, 104, 101, 32, 112, 111, 119, 101, 114, 32, 103, 111, 101, 115])]))
def laid_synodal_wire_halves {H : Type} : DataW H := .agg [.lit (.int .u32 0), .lit (.int .u32 274646895), .lit (.int .u32 549293790), .lit (.int .u32 820201905), .lit (.int .u32 1098587580), .lit (.int .u32 1361435347), .lit (.int .u32 1640403810), .lit (.int .u32 1905808397), .lit (.int .u32 2197175160), .lit (.int .u32 2460548119), .lit (.int .u32 2722870694), .lit (.int .u32 2987750089), .lit (.int .u32 3280807620), .lit (.int .u32 3553878443), .lit (.int .u32 3811616794), .lit (.int .u32 4084100981)]
def laid_synodal_wal_errPart {H : Type} : DataW H := .iface "*errors.errorString" (.ptr (.agg [.lit (.string [97, 32, 112, 97, 114, 116, 32, 111, 102, 32, 97, 32, 114, 101, 99, 111, 114, 100])]))

/-- 'synodallaw4.WalPlays': WHATEVER THE INPUT: true; the input reads as it did. -/
def walPlaysSpec : ChangeSpec := { name := "walPlays", fn := fun _ => fun
  | [d] => { results := [.lit (.bool true)], args := [d] }
  | _ => none }
def walPlaysRow : OpenClaim := { program := "ytbfepfpocgijgaadoor", sum := "33f2ff5a17b6cbfa6e1bdac5b2669b10169ccc831bc033999244e43f2c0fa2c8", func := "synodal/synodallaw4.WalPlays", spec := "walPlays", inPlace := ["internal/reflectlite.ValueOf", "(internal/reflectlite.Value).Type", "(internal/reflectlite.Value).IsNil", "internal/reflectlite.TypeOf", "(internal/reflectlite.Value).Elem", "(internal/reflectlite.Value).Set"], unfollowed := true, recurses := true, named := ["synodal/wal.errPart", "synodal/wire.halves", "errors.errorType", "synodal/tape.errGoes"], apart := false, laid := [("errors.errorType", laid_errors_errorType), ("synodal/tape.errGoes", laid_synodal_tape_errGoes), ("synodal/wire.halves", laid_synodal_wire_halves), ("synodal/wal.errPart", laid_synodal_wal_errPart)] }
def WalPlaysSaid : Prop := walPlaysRow.holds Tryd.pinned (OpenSpec.ofChange walPlaysSpec)

/-- ITS FALSE NEIGHBOUR: 'it returns false'. Refute it at one input. -/
def walPlaysWrong : ChangeSpec := { name := "walPlays", fn := fun _ => fun
  | [d] => { results := [.lit (.bool false)], args := [d] }
  | _ => none }
def WalPlaysWrongFalsely : Prop := walPlaysRow.holds Tryd.pinned (OpenSpec.ofChange walPlaysWrong)

/-- 'synodallaw4.WalCrashes': WHATEVER THE INPUT: true; the input reads as it did. -/
def walCrashesSpec : ChangeSpec := { name := "walCrashes", fn := fun _ => fun
  | [d1, d2, d3, d4] => { results := [.lit (.bool true)], args := [d1, d2, d3, d4] }
  | _ => none }
def walCrashesRow : OpenClaim := { program := "ytbfepfpocgijgaadoor", sum := "33f2ff5a17b6cbfa6e1bdac5b2669b10169ccc831bc033999244e43f2c0fa2c8", func := "synodal/synodallaw4.WalCrashes", spec := "walCrashes", inPlace := ["internal/reflectlite.ValueOf", "(internal/reflectlite.Value).Type", "(internal/reflectlite.Value).IsNil", "internal/reflectlite.TypeOf", "(internal/reflectlite.Value).Elem", "(internal/reflectlite.Value).Set"], unfollowed := true, recurses := true, named := ["synodal/wal.errPart", "synodal/wire.halves", "errors.errorType", "synodal/tape.errGoes"], apart := false, laid := [("errors.errorType", laid_errors_errorType), ("synodal/tape.errGoes", laid_synodal_tape_errGoes), ("synodal/wire.halves", laid_synodal_wire_halves), ("synodal/wal.errPart", laid_synodal_wal_errPart)] }
def WalCrashesSaid : Prop := walCrashesRow.holds Tryd.pinned (OpenSpec.ofChange walCrashesSpec)

/-- ITS FALSE NEIGHBOUR: 'it returns false'. Refute it at one input. -/
def walCrashesWrong : ChangeSpec := { name := "walCrashes", fn := fun _ => fun
  | [d1, d2, d3, d4] => { results := [.lit (.bool false)], args := [d1, d2, d3, d4] }
  | _ => none }
def WalCrashesWrongFalsely : Prop := walCrashesRow.holds Tryd.pinned (OpenSpec.ofChange walCrashesWrong)

/-- 'synodallaw4.WalEcho': WHATEVER THE INPUT: true; the input reads as it did. -/
def walEchoSpec : ChangeSpec := { name := "walEcho", fn := fun _ => fun
  | [d1, d2] => { results := [.lit (.bool true)], args := [d1, d2] }
  | _ => none }
def walEchoRow : OpenClaim := { program := "ytbfepfpocgijgaadoor", sum := "33f2ff5a17b6cbfa6e1bdac5b2669b10169ccc831bc033999244e43f2c0fa2c8", func := "synodal/synodallaw4.WalEcho", spec := "walEcho", inPlace := ["internal/reflectlite.ValueOf", "(internal/reflectlite.Value).Type", "(internal/reflectlite.Value).IsNil", "internal/reflectlite.TypeOf", "(internal/reflectlite.Value).Elem", "(internal/reflectlite.Value).Set"], unfollowed := true, recurses := true, named := ["synodal/wal.errPart", "synodal/wire.halves", "errors.errorType", "synodal/tape.errGoes"], apart := false, laid := [("errors.errorType", laid_errors_errorType), ("synodal/tape.errGoes", laid_synodal_tape_errGoes), ("synodal/wire.halves", laid_synodal_wire_halves), ("synodal/wal.errPart", laid_synodal_wal_errPart)] }
def WalEchoSaid : Prop := walEchoRow.holds Tryd.pinned (OpenSpec.ofChange walEchoSpec)

/-- ITS FALSE NEIGHBOUR: 'it returns false'. Refute it at one input. -/
def walEchoWrong : ChangeSpec := { name := "walEcho", fn := fun _ => fun
  | [d1, d2] => { results := [.lit (.bool false)], args := [d1, d2] }
  | _ => none }
def WalEchoWrongFalsely : Prop := walEchoRow.holds Tryd.pinned (OpenSpec.ofChange walEchoWrong)

/-- 'synodallaw4.WalLong': WHATEVER THE INPUT: true; the input reads as it did. -/
def walLongSpec : ChangeSpec := { name := "walLong", fn := fun _ => fun
  | [d1, d2] => { results := [.lit (.bool true)], args := [d1, d2] }
  | _ => none }
def walLongRow : OpenClaim := { program := "ytbfepfpocgijgaadoor", sum := "33f2ff5a17b6cbfa6e1bdac5b2669b10169ccc831bc033999244e43f2c0fa2c8", func := "synodal/synodallaw4.WalLong", spec := "walLong", inPlace := ["internal/reflectlite.ValueOf", "(internal/reflectlite.Value).Type", "(internal/reflectlite.Value).IsNil", "internal/reflectlite.TypeOf", "(internal/reflectlite.Value).Elem", "(internal/reflectlite.Value).Set"], unfollowed := true, recurses := true, named := ["synodal/wal.errPart", "synodal/wire.halves", "errors.errorType", "synodal/tape.errGoes"], apart := false, laid := [("errors.errorType", laid_errors_errorType), ("synodal/tape.errGoes", laid_synodal_tape_errGoes), ("synodal/wire.halves", laid_synodal_wire_halves), ("synodal/wal.errPart", laid_synodal_wal_errPart)] }
def WalLongSaid : Prop := walLongRow.holds Tryd.pinned (OpenSpec.ofChange walLongSpec)

/-- ITS FALSE NEIGHBOUR: 'it returns false'. Refute it at one input. -/
def walLongWrong : ChangeSpec := { name := "walLong", fn := fun _ => fun
  | [d1, d2] => { results := [.lit (.bool false)], args := [d1, d2] }
  | _ => none }
def WalLongWrongFalsely : Prop := walLongRow.holds Tryd.pinned (OpenSpec.ofChange walLongWrong)

/-- 'synodallaw4.WalKeeps': WHATEVER THE INPUT: true; the input reads as it did. -/
def walKeepsSpec : ChangeSpec := { name := "walKeeps", fn := fun _ => fun
  | [d1, d2, d3, d4] => { results := [.lit (.bool true)], args := [d1, d2, d3, d4] }
  | _ => none }
def walKeepsRow : OpenClaim := { program := "ytbfepfpocgijgaadoor", sum := "33f2ff5a17b6cbfa6e1bdac5b2669b10169ccc831bc033999244e43f2c0fa2c8", func := "synodal/synodallaw4.WalKeeps", spec := "walKeeps", inPlace := ["internal/reflectlite.ValueOf", "(internal/reflectlite.Value).Type", "(internal/reflectlite.Value).IsNil", "internal/reflectlite.TypeOf", "(internal/reflectlite.Value).Elem", "(internal/reflectlite.Value).Set"], unfollowed := true, recurses := true, named := ["synodal/wal.errPart", "synodal/wire.halves", "errors.errorType", "synodal/tape.errGoes"], apart := false, laid := [("errors.errorType", laid_errors_errorType), ("synodal/tape.errGoes", laid_synodal_tape_errGoes), ("synodal/wire.halves", laid_synodal_wire_halves), ("synodal/wal.errPart", laid_synodal_wal_errPart)] }
def WalKeepsSaid : Prop := walKeepsRow.holds Tryd.pinned (OpenSpec.ofChange walKeepsSpec)

/-- ITS FALSE NEIGHBOUR: 'it returns false'. Refute it at one input. -/
def walKeepsWrong : ChangeSpec := { name := "walKeeps", fn := fun _ => fun
  | [d1, d2, d3, d4] => { results := [.lit (.bool false)], args := [d1, d2, d3, d4] }
  | _ => none }
def WalKeepsWrongFalsely : Prop := walKeepsRow.holds Tryd.pinned (OpenSpec.ofChange walKeepsWrong)

/-- 'synodallaw4.WalTails': WHATEVER THE INPUT: true; the input reads as it did. -/
def walTailsSpec : ChangeSpec := { name := "walTails", fn := fun _ => fun
  | [d1, d2, d3] => { results := [.lit (.bool true)], args := [d1, d2, d3] }
  | _ => none }
def walTailsRow : OpenClaim := { program := "ytbfepfpocgijgaadoor", sum := "33f2ff5a17b6cbfa6e1bdac5b2669b10169ccc831bc033999244e43f2c0fa2c8", func := "synodal/synodallaw4.WalTails", spec := "walTails", inPlace := ["internal/reflectlite.ValueOf", "(internal/reflectlite.Value).Type", "(internal/reflectlite.Value).IsNil", "internal/reflectlite.TypeOf", "(internal/reflectlite.Value).Elem", "(internal/reflectlite.Value).Set"], unfollowed := true, recurses := true, named := ["synodal/wal.errPart", "synodal/wire.halves", "errors.errorType", "synodal/tape.errGoes"], apart := false, laid := [("errors.errorType", laid_errors_errorType), ("synodal/tape.errGoes", laid_synodal_tape_errGoes), ("synodal/wire.halves", laid_synodal_wire_halves), ("synodal/wal.errPart", laid_synodal_wal_errPart)] }
def WalTailsSaid : Prop := walTailsRow.holds Tryd.pinned (OpenSpec.ofChange walTailsSpec)

/-- ITS FALSE NEIGHBOUR: 'it returns false'. Refute it at one input. -/
def walTailsWrong : ChangeSpec := { name := "walTails", fn := fun _ => fun
  | [d1, d2, d3] => { results := [.lit (.bool false)], args := [d1, d2, d3] }
  | _ => none }
def WalTailsWrongFalsely : Prop := walTailsRow.holds Tryd.pinned (OpenSpec.ofChange walTailsWrong)

/- THE SECOND FORM. 'bulk': how many values and letters a reading holds, each counted each time it is reached (what is shared counts as often as it is met; a slice's spare places count too). A statement '..UptoSaid' is the law's where the arguments, and the package variables that the reading takes, are together of bulk at most 1048576: NARROWER than '..Said'. Prove '..Said' where nothing that the law and all that it calls make is longer than what came in: it says more and counts as full. Else prove '..UptoSaid'. A law counts once. -/
mutual
def uptoBulk {H : Type} : DataW H → Nat
  | .lit (.string bytes) => bytes.length + 1
  | .lit _ => 1
  | .nil => 1
  | .ptr d => uptoBulk d + 1
  | .slice elems spare => uptoBulkAll elems + uptoBulkAll spare + 1
  | .agg parts => uptoBulkAll parts + 1
  | .iface _ d => uptoBulk d + 1
  | .map entries => uptoBulkEntries entries + 1
  | .held _ => 1
def uptoBulkAll {H : Type} : List (DataW H) → Nat
  | [] => 0
  | d :: r => uptoBulk d + uptoBulkAll r
def uptoBulkEntries {H : Type} : List (Lit × DataW H) → Nat
  | [] => 0
  | x :: r => uptoBulkEntry x + uptoBulkEntries r
def uptoBulkEntry {H : Type} : Lit × DataW H → Nat
  | (.string bytes, d) => bytes.length + uptoBulk d + 1
  | (_, d) => uptoBulk d + 1
 end
def uptoSmall : (H : Type) → List (DataW H) → Bool := fun _ ds => decide (uptoBulkAll ds ≤ 1048576)
def OpenSpec.upto (s : _root_.Go.ChangeSpec) : _root_.Go.OpenSpec := { _root_.Go.OpenSpec.ofChange s with cond := some uptoSmall }

/-- 'synodallaw4.WalPlays', WHERE WHAT IT READS IS OF BULK AT MOST 1048576: true; the input reads as it did. -/
def walPlaysUptoRow : OpenClaim := { program := "ytbfepfpocgijgaadoor", sum := "33f2ff5a17b6cbfa6e1bdac5b2669b10169ccc831bc033999244e43f2c0fa2c8", func := "synodal/synodallaw4.WalPlays", spec := "walPlays", inPlace := ["internal/reflectlite.ValueOf", "(internal/reflectlite.Value).Type", "(internal/reflectlite.Value).IsNil", "internal/reflectlite.TypeOf", "(internal/reflectlite.Value).Elem", "(internal/reflectlite.Value).Set"], unfollowed := true, recurses := true, named := ["synodal/wal.errPart", "synodal/wire.halves", "errors.errorType", "synodal/tape.errGoes"], apart := false, laid := [("errors.errorType", laid_errors_errorType), ("synodal/tape.errGoes", laid_synodal_tape_errGoes), ("synodal/wire.halves", laid_synodal_wire_halves), ("synodal/wal.errPart", laid_synodal_wal_errPart)], narrowed := true }
def WalPlaysUptoSaid : Prop := walPlaysUptoRow.holds Tryd.pinned (OpenSpec.upto walPlaysSpec)

/-- 'synodallaw4.WalCrashes', WHERE WHAT IT READS IS OF BULK AT MOST 1048576: true; the input reads as it did. -/
def walCrashesUptoRow : OpenClaim := { program := "ytbfepfpocgijgaadoor", sum := "33f2ff5a17b6cbfa6e1bdac5b2669b10169ccc831bc033999244e43f2c0fa2c8", func := "synodal/synodallaw4.WalCrashes", spec := "walCrashes", inPlace := ["internal/reflectlite.ValueOf", "(internal/reflectlite.Value).Type", "(internal/reflectlite.Value).IsNil", "internal/reflectlite.TypeOf", "(internal/reflectlite.Value).Elem", "(internal/reflectlite.Value).Set"], unfollowed := true, recurses := true, named := ["synodal/wal.errPart", "synodal/wire.halves", "errors.errorType", "synodal/tape.errGoes"], apart := false, laid := [("errors.errorType", laid_errors_errorType), ("synodal/tape.errGoes", laid_synodal_tape_errGoes), ("synodal/wire.halves", laid_synodal_wire_halves), ("synodal/wal.errPart", laid_synodal_wal_errPart)], narrowed := true }
def WalCrashesUptoSaid : Prop := walCrashesUptoRow.holds Tryd.pinned (OpenSpec.upto walCrashesSpec)

/-- 'synodallaw4.WalEcho', WHERE WHAT IT READS IS OF BULK AT MOST 1048576: true; the input reads as it did. -/
def walEchoUptoRow : OpenClaim := { program := "ytbfepfpocgijgaadoor", sum := "33f2ff5a17b6cbfa6e1bdac5b2669b10169ccc831bc033999244e43f2c0fa2c8", func := "synodal/synodallaw4.WalEcho", spec := "walEcho", inPlace := ["internal/reflectlite.ValueOf", "(internal/reflectlite.Value).Type", "(internal/reflectlite.Value).IsNil", "internal/reflectlite.TypeOf", "(internal/reflectlite.Value).Elem", "(internal/reflectlite.Value).Set"], unfollowed := true, recurses := true, named := ["synodal/wal.errPart", "synodal/wire.halves", "errors.errorType", "synodal/tape.errGoes"], apart := false, laid := [("errors.errorType", laid_errors_errorType), ("synodal/tape.errGoes", laid_synodal_tape_errGoes), ("synodal/wire.halves", laid_synodal_wire_halves), ("synodal/wal.errPart", laid_synodal_wal_errPart)], narrowed := true }
def WalEchoUptoSaid : Prop := walEchoUptoRow.holds Tryd.pinned (OpenSpec.upto walEchoSpec)

/-- 'synodallaw4.WalLong', WHERE WHAT IT READS IS OF BULK AT MOST 1048576: true; the input reads as it did. -/
def walLongUptoRow : OpenClaim := { program := "ytbfepfpocgijgaadoor", sum := "33f2ff5a17b6cbfa6e1bdac5b2669b10169ccc831bc033999244e43f2c0fa2c8", func := "synodal/synodallaw4.WalLong", spec := "walLong", inPlace := ["internal/reflectlite.ValueOf", "(internal/reflectlite.Value).Type", "(internal/reflectlite.Value).IsNil", "internal/reflectlite.TypeOf", "(internal/reflectlite.Value).Elem", "(internal/reflectlite.Value).Set"], unfollowed := true, recurses := true, named := ["synodal/wal.errPart", "synodal/wire.halves", "errors.errorType", "synodal/tape.errGoes"], apart := false, laid := [("errors.errorType", laid_errors_errorType), ("synodal/tape.errGoes", laid_synodal_tape_errGoes), ("synodal/wire.halves", laid_synodal_wire_halves), ("synodal/wal.errPart", laid_synodal_wal_errPart)], narrowed := true }
def WalLongUptoSaid : Prop := walLongUptoRow.holds Tryd.pinned (OpenSpec.upto walLongSpec)

/-- 'synodallaw4.WalKeeps', WHERE WHAT IT READS IS OF BULK AT MOST 1048576: true; the input reads as it did. -/
def walKeepsUptoRow : OpenClaim := { program := "ytbfepfpocgijgaadoor", sum := "33f2ff5a17b6cbfa6e1bdac5b2669b10169ccc831bc033999244e43f2c0fa2c8", func := "synodal/synodallaw4.WalKeeps", spec := "walKeeps", inPlace := ["internal/reflectlite.ValueOf", "(internal/reflectlite.Value).Type", "(internal/reflectlite.Value).IsNil", "internal/reflectlite.TypeOf", "(internal/reflectlite.Value).Elem", "(internal/reflectlite.Value).Set"], unfollowed := true, recurses := true, named := ["synodal/wal.errPart", "synodal/wire.halves", "errors.errorType", "synodal/tape.errGoes"], apart := false, laid := [("errors.errorType", laid_errors_errorType), ("synodal/tape.errGoes", laid_synodal_tape_errGoes), ("synodal/wire.halves", laid_synodal_wire_halves), ("synodal/wal.errPart", laid_synodal_wal_errPart)], narrowed := true }
def WalKeepsUptoSaid : Prop := walKeepsUptoRow.holds Tryd.pinned (OpenSpec.upto walKeepsSpec)

/-- 'synodallaw4.WalTails', WHERE WHAT IT READS IS OF BULK AT MOST 1048576: true; the input reads as it did. -/
def walTailsUptoRow : OpenClaim := { program := "ytbfepfpocgijgaadoor", sum := "33f2ff5a17b6cbfa6e1bdac5b2669b10169ccc831bc033999244e43f2c0fa2c8", func := "synodal/synodallaw4.WalTails", spec := "walTails", inPlace := ["internal/reflectlite.ValueOf", "(internal/reflectlite.Value).Type", "(internal/reflectlite.Value).IsNil", "internal/reflectlite.TypeOf", "(internal/reflectlite.Value).Elem", "(internal/reflectlite.Value).Set"], unfollowed := true, recurses := true, named := ["synodal/wal.errPart", "synodal/wire.halves", "errors.errorType", "synodal/tape.errGoes"], apart := false, laid := [("errors.errorType", laid_errors_errorType), ("synodal/tape.errGoes", laid_synodal_tape_errGoes), ("synodal/wire.halves", laid_synodal_wire_halves), ("synodal/wal.errPart", laid_synodal_wal_errPart)], narrowed := true }
def WalTailsUptoSaid : Prop := walTailsUptoRow.holds Tryd.pinned (OpenSpec.upto walTailsSpec)

end Rows
end Go.Proofs.YtbfepfpocgijgaaDoor
