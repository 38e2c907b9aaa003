/-
  No cell of these rows narrows 'for every input' (looked for: loops, veiled, ifaces, maps, wideKeys, modest, calm, conditions, laid).
  DERIVED. THE GIVEN ROWS OF THIS SEAT. 3 by the template 'for every input the law returns true; each argument reads behind the call as it read before'; 0 by the template 'total and deterministic' (their statements: YthebgkkdkhlbbabTotals.lean).
  GIVEN WITH THE SEED: the statements are not yours to turn. If you find one false, say at which input.
  Laid BY PROGRAM, IN A SANDBOX (cutbox-rows.mjs): the forced cells as the released guide's own fill.sh prints them over the translation 660dfe373b8eeb50… (all of the seat's roots in one cut). By AI agents, Wed Nov 11 2026. No macro, syntax, notation, axiom, sorry.
-/
import Derived.Test.YthebgkkdkhlbbabChecked
import GoSem.Claim
import GoSem.ClaimJoined
import GoSem.ClaimMapViews
import Derived.JoinedTies
import Derived.KernelRfl
namespace Go.Proofs.Ythebgkkdkhlbbab
/- THE CELL 'sum', in the pinned program and in every row, IS THE sha256 OF THE DUMP (.gsa) THAT YthebgkkdkhlbbabProg.lean LOADS. Nothing in Lean hashes anything: it is a label: what it is worth is what the hold of that sum in a sandbox is worth. -/
noncomputable def Try.pinned : Pinned := { name := "ythebgkkdkhlbbab", sum := "660dfe373b8eeb50238f0dfd441c75c564a7da7275f323d34c35efecf53c9a0e", checked := Try.checked }
namespace Rows
def none {H : Type} : Left H := { results := [], args := [] }

/-- 'synodallaw10.HistCuts': WHATEVER THE INPUT: true; the input reads as it did. -/
def histCutsSpec : ChangeSpec := { name := "histCuts", fn := fun _ => fun
  | [d1, d2, d3] => { results := [.lit (.bool true)], args := [d1, d2, d3] }
  | _ => none }
def histCutsRow : OpenClaim := { program := "ythebgkkdkhlbbab", sum := "660dfe373b8eeb50238f0dfd441c75c564a7da7275f323d34c35efecf53c9a0e", func := "synodal/synodallaw10.HistCuts", spec := "histCuts", apart := false }
def HistCutsSaid : Prop := histCutsRow.holds Try.pinned (OpenSpec.ofChange histCutsSpec)

/-- ITS FALSE NEIGHBOUR: 'it returns false'. Refute it at one input. -/
def histCutsWrong : ChangeSpec := { name := "histCuts", fn := fun _ => fun
  | [d1, d2, d3] => { results := [.lit (.bool false)], args := [d1, d2, d3] }
  | _ => none }
def HistCutsWrongFalsely : Prop := histCutsRow.holds Try.pinned (OpenSpec.ofChange histCutsWrong)

/-- 'synodallaw10.HistRoom': WHATEVER THE INPUT: true; the input reads as it did. -/
def histRoomSpec : ChangeSpec := { name := "histRoom", fn := fun _ => fun
  | [d1, d2, d3] => { results := [.lit (.bool true)], args := [d1, d2, d3] }
  | _ => none }
def histRoomRow : OpenClaim := { program := "ythebgkkdkhlbbab", sum := "660dfe373b8eeb50238f0dfd441c75c564a7da7275f323d34c35efecf53c9a0e", func := "synodal/synodallaw10.HistRoom", spec := "histRoom", apart := false }
def HistRoomSaid : Prop := histRoomRow.holds Try.pinned (OpenSpec.ofChange histRoomSpec)

/-- ITS FALSE NEIGHBOUR: 'it returns false'. Refute it at one input. -/
def histRoomWrong : ChangeSpec := { name := "histRoom", fn := fun _ => fun
  | [d1, d2, d3] => { results := [.lit (.bool false)], args := [d1, d2, d3] }
  | _ => none }
def HistRoomWrongFalsely : Prop := histRoomRow.holds Try.pinned (OpenSpec.ofChange histRoomWrong)

/-- 'synodallaw10.HistBase': WHATEVER THE INPUT: true; the input reads as it did. -/
def histBaseSpec : ChangeSpec := { name := "histBase", fn := fun _ => fun
  | [d1, d2, d3] => { results := [.lit (.bool true)], args := [d1, d2, d3] }
  | _ => none }
def histBaseRow : OpenClaim := { program := "ythebgkkdkhlbbab", sum := "660dfe373b8eeb50238f0dfd441c75c564a7da7275f323d34c35efecf53c9a0e", func := "synodal/synodallaw10.HistBase", spec := "histBase", apart := false }
def HistBaseSaid : Prop := histBaseRow.holds Try.pinned (OpenSpec.ofChange histBaseSpec)

/-- ITS FALSE NEIGHBOUR: 'it returns false'. Refute it at one input. -/
def histBaseWrong : ChangeSpec := { name := "histBase", fn := fun _ => fun
  | [d1, d2, d3] => { results := [.lit (.bool false)], args := [d1, d2, d3] }
  | _ => none }
def HistBaseWrongFalsely : Prop := histBaseRow.holds Try.pinned (OpenSpec.ofChange histBaseWrong)

/- THE SECOND FORM. 'bulk': how many values and letters a reading holds, each counted each time it is reached (what is shared counts as often as it is met; a slice's spare places count too). A statement '..UptoSaid' is the law's where the arguments, and the package variables that the reading takes, are together of bulk at most 1048576: NARROWER than '..Said'. Prove '..Said' where nothing that the law and all that it calls make is longer than what came in: it says more and counts as full. Else prove '..UptoSaid'. A law counts once. -/
mutual
def uptoBulk {H : Type} : DataW H → Nat
  | .lit (.string bytes) => bytes.length + 1
  | .lit _ => 1
  | .nil => 1
  | .ptr d => uptoBulk d + 1
  | .slice elems spare => uptoBulkAll elems + uptoBulkAll spare + 1
  | .agg parts => uptoBulkAll parts + 1
  | .iface _ d => uptoBulk d + 1
  | .map entries => uptoBulkEntries entries + 1
  | .held _ => 1
def uptoBulkAll {H : Type} : List (DataW H) → Nat
  | [] => 0
  | d :: r => uptoBulk d + uptoBulkAll r
def uptoBulkEntries {H : Type} : List (Lit × DataW H) → Nat
  | [] => 0
  | x :: r => uptoBulkEntry x + uptoBulkEntries r
def uptoBulkEntry {H : Type} : Lit × DataW H → Nat
  | (.string bytes, d) => bytes.length + uptoBulk d + 1
  | (_, d) => uptoBulk d + 1
 end
def uptoSmall : (H : Type) → List (DataW H) → Bool := fun _ ds => decide (uptoBulkAll ds ≤ 1048576)
def OpenSpec.upto (s : _root_.Go.ChangeSpec) : _root_.Go.OpenSpec := { _root_.Go.OpenSpec.ofChange s with cond := some uptoSmall }

/-- 'synodallaw10.HistCuts', WHERE WHAT IT READS IS OF BULK AT MOST 1048576: true; the input reads as it did. -/
def histCutsUptoRow : OpenClaim := { program := "ythebgkkdkhlbbab", sum := "660dfe373b8eeb50238f0dfd441c75c564a7da7275f323d34c35efecf53c9a0e", func := "synodal/synodallaw10.HistCuts", spec := "histCuts", apart := false, narrowed := true }
def HistCutsUptoSaid : Prop := histCutsUptoRow.holds Try.pinned (OpenSpec.upto histCutsSpec)

/-- 'synodallaw10.HistRoom', WHERE WHAT IT READS IS OF BULK AT MOST 1048576: true; the input reads as it did. -/
def histRoomUptoRow : OpenClaim := { program := "ythebgkkdkhlbbab", sum := "660dfe373b8eeb50238f0dfd441c75c564a7da7275f323d34c35efecf53c9a0e", func := "synodal/synodallaw10.HistRoom", spec := "histRoom", apart := false, narrowed := true }
def HistRoomUptoSaid : Prop := histRoomUptoRow.holds Try.pinned (OpenSpec.upto histRoomSpec)

/-- 'synodallaw10.HistBase', WHERE WHAT IT READS IS OF BULK AT MOST 1048576: true; the input reads as it did. -/
def histBaseUptoRow : OpenClaim := { program := "ythebgkkdkhlbbab", sum := "660dfe373b8eeb50238f0dfd441c75c564a7da7275f323d34c35efecf53c9a0e", func := "synodal/synodallaw10.HistBase", spec := "histBase", apart := false, narrowed := true }
def HistBaseUptoSaid : Prop := histBaseUptoRow.holds Try.pinned (OpenSpec.upto histBaseSpec)

end Rows
end Go.Proofs.Ythebgkkdkhlbbab
