/-
  No cell of these rows narrows 'for every input' (looked for: loops, veiled, ifaces, maps, wideKeys, modest, calm, conditions, laid).
  DERIVED. THE GIVEN ROWS OF THIS SEAT. 6 by the template 'for every input the law returns true; each argument reads behind the call as it read before'; 0 by the template 'total and deterministic' (their statements: YthemdkfmlkaifaaTotals.lean).
  GIVEN WITH THE SEED: the statements are not yours to turn. If you find one false, say at which input.
  Laid BY PROGRAM, IN A SANDBOX (cutbox-rows.mjs): the forced cells as the released guide's own fill.sh prints them over the translation e24fe12f04301274… (all of the seat's roots in one cut). By AI agents, Wed Nov 11 2026. No macro, syntax, notation, axiom, sorry.
-/
import Derived.Test.YthemdkfmlkaifaaChecked
import GoSem.Claim
import GoSem.ClaimJoined
import GoSem.ClaimMapViews
import Derived.JoinedTies
import Derived.KernelRfl
namespace Go.Proofs.Ythemdkfmlkaifaa
/- THE CELL 'sum', in the pinned program and in every row, IS THE sha256 OF THE DUMP (.gsa) THAT YthemdkfmlkaifaaProg.lean LOADS. Nothing in Lean hashes anything: it is a label: what it is worth is what the hold of that sum in a sandbox is worth. -/
noncomputable def Try.pinned : Pinned := { name := "ythemdkfmlkaifaa", sum := "e24fe12f04301274df00054bbcc243bf1f2031a2e775c2d7d30d4a7cba5ce793", checked := Try.checked }
namespace Rows
def none {H : Type} : Left H := { results := [], args := [] }

/-- 'synodallaw8.ConfAsks': WHATEVER THE INPUT: true; the input reads as it did. -/
def confAsksSpec : ChangeSpec := { name := "confAsks", fn := fun _ => fun
  | [d1, d2, d3, d4, d5] => { results := [.lit (.bool true)], args := [d1, d2, d3, d4, d5] }
  | _ => none }
def confAsksRow : OpenClaim := { program := "ythemdkfmlkaifaa", sum := "e24fe12f04301274df00054bbcc243bf1f2031a2e775c2d7d30d4a7cba5ce793", func := "synodal/synodallaw8.ConfAsks", spec := "confAsks", recurses := true, apart := false }
def ConfAsksSaid : Prop := confAsksRow.holds Try.pinned (OpenSpec.ofChange confAsksSpec)

/-- ITS FALSE NEIGHBOUR: 'it returns false'. Refute it at one input. -/
def confAsksWrong : ChangeSpec := { name := "confAsks", fn := fun _ => fun
  | [d1, d2, d3, d4, d5] => { results := [.lit (.bool false)], args := [d1, d2, d3, d4, d5] }
  | _ => none }
def ConfAsksWrongFalsely : Prop := confAsksRow.holds Try.pinned (OpenSpec.ofChange confAsksWrong)

/-- 'synodallaw8.ConfSteps': WHATEVER THE INPUT: true; the input reads as it did. -/
def confStepsSpec : ChangeSpec := { name := "confSteps", fn := fun _ => fun
  | [d1, d2, d3, d4] => { results := [.lit (.bool true)], args := [d1, d2, d3, d4] }
  | _ => none }
def confStepsRow : OpenClaim := { program := "ythemdkfmlkaifaa", sum := "e24fe12f04301274df00054bbcc243bf1f2031a2e775c2d7d30d4a7cba5ce793", func := "synodal/synodallaw8.ConfSteps", spec := "confSteps", recurses := true, apart := false }
def ConfStepsSaid : Prop := confStepsRow.holds Try.pinned (OpenSpec.ofChange confStepsSpec)

/-- ITS FALSE NEIGHBOUR: 'it returns false'. Refute it at one input. -/
def confStepsWrong : ChangeSpec := { name := "confSteps", fn := fun _ => fun
  | [d1, d2, d3, d4] => { results := [.lit (.bool false)], args := [d1, d2, d3, d4] }
  | _ => none }
def ConfStepsWrongFalsely : Prop := confStepsRow.holds Try.pinned (OpenSpec.ofChange confStepsWrong)

/-- 'synodallaw8.ConfMeet': WHATEVER THE INPUT: true; the input reads as it did. -/
def confMeetSpec : ChangeSpec := { name := "confMeet", fn := fun _ => fun
  | [d1, d2, d3, d4] => { results := [.lit (.bool true)], args := [d1, d2, d3, d4] }
  | _ => none }
def confMeetRow : OpenClaim := { program := "ythemdkfmlkaifaa", sum := "e24fe12f04301274df00054bbcc243bf1f2031a2e775c2d7d30d4a7cba5ce793", func := "synodal/synodallaw8.ConfMeet", spec := "confMeet", recurses := true, apart := false }
def ConfMeetSaid : Prop := confMeetRow.holds Try.pinned (OpenSpec.ofChange confMeetSpec)

/-- ITS FALSE NEIGHBOUR: 'it returns false'. Refute it at one input. -/
def confMeetWrong : ChangeSpec := { name := "confMeet", fn := fun _ => fun
  | [d1, d2, d3, d4] => { results := [.lit (.bool false)], args := [d1, d2, d3, d4] }
  | _ => none }
def ConfMeetWrongFalsely : Prop := confMeetRow.holds Try.pinned (OpenSpec.ofChange confMeetWrong)

/-- 'synodallaw8.ConfMore': WHATEVER THE INPUT: true; the input reads as it did. -/
def confMoreSpec : ChangeSpec := { name := "confMore", fn := fun _ => fun
  | [d1, d2, d3, d4] => { results := [.lit (.bool true)], args := [d1, d2, d3, d4] }
  | _ => none }
def confMoreRow : OpenClaim := { program := "ythemdkfmlkaifaa", sum := "e24fe12f04301274df00054bbcc243bf1f2031a2e775c2d7d30d4a7cba5ce793", func := "synodal/synodallaw8.ConfMore", spec := "confMore", recurses := true, apart := false }
def ConfMoreSaid : Prop := confMoreRow.holds Try.pinned (OpenSpec.ofChange confMoreSpec)

/-- ITS FALSE NEIGHBOUR: 'it returns false'. Refute it at one input. -/
def confMoreWrong : ChangeSpec := { name := "confMore", fn := fun _ => fun
  | [d1, d2, d3, d4] => { results := [.lit (.bool false)], args := [d1, d2, d3, d4] }
  | _ => none }
def ConfMoreWrongFalsely : Prop := confMoreRow.holds Try.pinned (OpenSpec.ofChange confMoreWrong)

/-- 'synodallaw8.ConfChecks': WHATEVER THE INPUT: true; the input reads as it did. -/
def confChecksSpec : ChangeSpec := { name := "confChecks", fn := fun _ => fun
  | [d1, d2, d3, d4] => { results := [.lit (.bool true)], args := [d1, d2, d3, d4] }
  | _ => none }
def confChecksRow : OpenClaim := { program := "ythemdkfmlkaifaa", sum := "e24fe12f04301274df00054bbcc243bf1f2031a2e775c2d7d30d4a7cba5ce793", func := "synodal/synodallaw8.ConfChecks", spec := "confChecks", recurses := true, apart := false }
def ConfChecksSaid : Prop := confChecksRow.holds Try.pinned (OpenSpec.ofChange confChecksSpec)

/-- ITS FALSE NEIGHBOUR: 'it returns false'. Refute it at one input. -/
def confChecksWrong : ChangeSpec := { name := "confChecks", fn := fun _ => fun
  | [d1, d2, d3, d4] => { results := [.lit (.bool false)], args := [d1, d2, d3, d4] }
  | _ => none }
def ConfChecksWrongFalsely : Prop := confChecksRow.holds Try.pinned (OpenSpec.ofChange confChecksWrong)

/-- 'synodallaw8.ConfRounds': WHATEVER THE INPUT: true; the input reads as it did. -/
def confRoundsSpec : ChangeSpec := { name := "confRounds", fn := fun _ => fun
  | [d1, d2] => { results := [.lit (.bool true)], args := [d1, d2] }
  | _ => none }
def confRoundsRow : OpenClaim := { program := "ythemdkfmlkaifaa", sum := "e24fe12f04301274df00054bbcc243bf1f2031a2e775c2d7d30d4a7cba5ce793", func := "synodal/synodallaw8.ConfRounds", spec := "confRounds", recurses := true, apart := false }
def ConfRoundsSaid : Prop := confRoundsRow.holds Try.pinned (OpenSpec.ofChange confRoundsSpec)

/-- ITS FALSE NEIGHBOUR: 'it returns false'. Refute it at one input. -/
def confRoundsWrong : ChangeSpec := { name := "confRounds", fn := fun _ => fun
  | [d1, d2] => { results := [.lit (.bool false)], args := [d1, d2] }
  | _ => none }
def ConfRoundsWrongFalsely : Prop := confRoundsRow.holds Try.pinned (OpenSpec.ofChange confRoundsWrong)

/- THE SECOND FORM. 'bulk': how many values and letters a reading holds, each counted each time it is reached (what is shared counts as often as it is met; a slice's spare places count too). A statement '..UptoSaid' is the law's where the arguments, and the package variables that the reading takes, are together of bulk at most 1048576: NARROWER than '..Said'. Prove '..Said' where nothing that the law and all that it calls make is longer than what came in: it says more and counts as full. Else prove '..UptoSaid'. A law counts once. -/
mutual
def uptoBulk {H : Type} : DataW H → Nat
  | .lit (.string bytes) => bytes.length + 1
  | .lit _ => 1
  | .nil => 1
  | .ptr d => uptoBulk d + 1
  | .slice elems spare => uptoBulkAll elems + uptoBulkAll spare + 1
  | .agg parts => uptoBulkAll parts + 1
  | .iface _ d => uptoBulk d + 1
  | .map entries => uptoBulkEntries entries + 1
  | .held _ => 1
def uptoBulkAll {H : Type} : List (DataW H) → Nat
  | [] => 0
  | d :: r => uptoBulk d + uptoBulkAll r
def uptoBulkEntries {H : Type} : List (Lit × DataW H) → Nat
  | [] => 0
  | x :: r => uptoBulkEntry x + uptoBulkEntries r
def uptoBulkEntry {H : Type} : Lit × DataW H → Nat
  | (.string bytes, d) => bytes.length + uptoBulk d + 1
  | (_, d) => uptoBulk d + 1
 end
def uptoSmall : (H : Type) → List (DataW H) → Bool := fun _ ds => decide (uptoBulkAll ds ≤ 1048576)
def OpenSpec.upto (s : _root_.Go.ChangeSpec) : _root_.Go.OpenSpec := { _root_.Go.OpenSpec.ofChange s with cond := some uptoSmall }

/-- 'synodallaw8.ConfAsks', WHERE WHAT IT READS IS OF BULK AT MOST 1048576: true; the input reads as it did. -/
def confAsksUptoRow : OpenClaim := { program := "ythemdkfmlkaifaa", sum := "e24fe12f04301274df00054bbcc243bf1f2031a2e775c2d7d30d4a7cba5ce793", func := "synodal/synodallaw8.ConfAsks", spec := "confAsks", recurses := true, apart := false, narrowed := true }
def ConfAsksUptoSaid : Prop := confAsksUptoRow.holds Try.pinned (OpenSpec.upto confAsksSpec)

/-- 'synodallaw8.ConfSteps', WHERE WHAT IT READS IS OF BULK AT MOST 1048576: true; the input reads as it did. -/
def confStepsUptoRow : OpenClaim := { program := "ythemdkfmlkaifaa", sum := "e24fe12f04301274df00054bbcc243bf1f2031a2e775c2d7d30d4a7cba5ce793", func := "synodal/synodallaw8.ConfSteps", spec := "confSteps", recurses := true, apart := false, narrowed := true }
def ConfStepsUptoSaid : Prop := confStepsUptoRow.holds Try.pinned (OpenSpec.upto confStepsSpec)

/-- 'synodallaw8.ConfMeet', WHERE WHAT IT READS IS OF BULK AT MOST 1048576: true; the input reads as it did. -/
def confMeetUptoRow : OpenClaim := { program := "ythemdkfmlkaifaa", sum := "e24fe12f04301274df00054bbcc243bf1f2031a2e775c2d7d30d4a7cba5ce793", func := "synodal/synodallaw8.ConfMeet", spec := "confMeet", recurses := true, apart := false, narrowed := true }
def ConfMeetUptoSaid : Prop := confMeetUptoRow.holds Try.pinned (OpenSpec.upto confMeetSpec)

/-- 'synodallaw8.ConfMore', WHERE WHAT IT READS IS OF BULK AT MOST 1048576: true; the input reads as it did. -/
def confMoreUptoRow : OpenClaim := { program := "ythemdkfmlkaifaa", sum := "e24fe12f04301274df00054bbcc243bf1f2031a2e775c2d7d30d4a7cba5ce793", func := "synodal/synodallaw8.ConfMore", spec := "confMore", recurses := true, apart := false, narrowed := true }
def ConfMoreUptoSaid : Prop := confMoreUptoRow.holds Try.pinned (OpenSpec.upto confMoreSpec)

/-- 'synodallaw8.ConfChecks', WHERE WHAT IT READS IS OF BULK AT MOST 1048576: true; the input reads as it did. -/
def confChecksUptoRow : OpenClaim := { program := "ythemdkfmlkaifaa", sum := "e24fe12f04301274df00054bbcc243bf1f2031a2e775c2d7d30d4a7cba5ce793", func := "synodal/synodallaw8.ConfChecks", spec := "confChecks", recurses := true, apart := false, narrowed := true }
def ConfChecksUptoSaid : Prop := confChecksUptoRow.holds Try.pinned (OpenSpec.upto confChecksSpec)

/-- 'synodallaw8.ConfRounds', WHERE WHAT IT READS IS OF BULK AT MOST 1048576: true; the input reads as it did. -/
def confRoundsUptoRow : OpenClaim := { program := "ythemdkfmlkaifaa", sum := "e24fe12f04301274df00054bbcc243bf1f2031a2e775c2d7d30d4a7cba5ce793", func := "synodal/synodallaw8.ConfRounds", spec := "confRounds", recurses := true, apart := false, narrowed := true }
def ConfRoundsUptoSaid : Prop := confRoundsUptoRow.holds Try.pinned (OpenSpec.upto confRoundsSpec)

end Rows
end Go.Proofs.Ythemdkfmlkaifaa
