/-
  No cell of these rows narrows 'for every input' (looked for: loops, veiled, ifaces, maps, wideKeys, modest, calm, conditions, laid).
  DERIVED. THE GIVEN ROWS OF THIS SEAT. 3 by the template 'for every input the law returns true; each argument reads behind the call as it read before'; 0 by the template 'total and deterministic' (their statements: YtgllokinadjiaaaTotals.lean).
  GIVEN WITH THE SEED: the statements are not yours to turn. If you find one false, say at which input.
  Laid BY PROGRAM, IN A SANDBOX (cutbox-rows.mjs): the forced cells as the released guide's own fill.sh prints them over the translation d76f8a38deb4f703… (all of the seat's roots in one cut). By AI agents, Wed Nov 11 2026. No macro, syntax, notation, axiom, sorry.
-/
import Derived.Test.YtgllokinadjiaaaChecked
import GoSem.Claim
import GoSem.ClaimJoined
import GoSem.ClaimMapViews
import Derived.JoinedTies
import Derived.KernelRfl
namespace Go.Proofs.Ytgllokinadjiaaa
/- THE CELL 'sum', in the pinned program and in every row, IS THE sha256 OF THE DUMP (.gsa) THAT YtgllokinadjiaaaProg.lean LOADS. Nothing in Lean hashes anything: it is a label: what it is worth is what the hold of that sum in a sandbox is worth. -/
noncomputable def Try.pinned : Pinned := { name := "ytgllokinadjiaaa", sum := "d76f8a38deb4f7036c67e984da9ae7cafddcc25ec09bb2a5a7ced2502988fd49", checked := Try.checked }
namespace Rows
def none {H : Type} : Left H := { results := [], args := [] }

/-- 'synodallaw17.SealIndexes': WHATEVER THE INPUT: true; the input reads as it did. -/
def sealIndexesSpec : ChangeSpec := { name := "sealIndexes", fn := fun _ => fun
  | [d1, d2] => { results := [.lit (.bool true)], args := [d1, d2] }
  | _ => none }
def sealIndexesRow : OpenClaim := { program := "ytgllokinadjiaaa", sum := "d76f8a38deb4f7036c67e984da9ae7cafddcc25ec09bb2a5a7ced2502988fd49", func := "synodal/synodallaw17.SealIndexes", spec := "sealIndexes", inPlace := ["internal/reflectlite.TypeOf"], unfollowed := true, recurses := true, apart := false }
def SealIndexesSaid : Prop := sealIndexesRow.holds Try.pinned (OpenSpec.ofChange sealIndexesSpec)

/-- ITS FALSE NEIGHBOUR: 'it returns false'. Refute it at one input. -/
def sealIndexesWrong : ChangeSpec := { name := "sealIndexes", fn := fun _ => fun
  | [d1, d2] => { results := [.lit (.bool false)], args := [d1, d2] }
  | _ => none }
def SealIndexesWrongFalsely : Prop := sealIndexesRow.holds Try.pinned (OpenSpec.ofChange sealIndexesWrong)

/-- 'synodallaw17.SealRefuses': WHATEVER THE INPUT: true; the input reads as it did. -/
def sealRefusesSpec : ChangeSpec := { name := "sealRefuses", fn := fun _ => fun
  | [d1, d2, d3, d4] => { results := [.lit (.bool true)], args := [d1, d2, d3, d4] }
  | _ => none }
def sealRefusesRow : OpenClaim := { program := "ytgllokinadjiaaa", sum := "d76f8a38deb4f7036c67e984da9ae7cafddcc25ec09bb2a5a7ced2502988fd49", func := "synodal/synodallaw17.SealRefuses", spec := "sealRefuses", inPlace := ["internal/reflectlite.TypeOf"], unfollowed := true, recurses := true, apart := false }
def SealRefusesSaid : Prop := sealRefusesRow.holds Try.pinned (OpenSpec.ofChange sealRefusesSpec)

/-- ITS FALSE NEIGHBOUR: 'it returns false'. Refute it at one input. -/
def sealRefusesWrong : ChangeSpec := { name := "sealRefuses", fn := fun _ => fun
  | [d1, d2, d3, d4] => { results := [.lit (.bool false)], args := [d1, d2, d3, d4] }
  | _ => none }
def SealRefusesWrongFalsely : Prop := sealRefusesRow.holds Try.pinned (OpenSpec.ofChange sealRefusesWrong)

/-- 'synodallaw17.SealOwn': WHATEVER THE INPUT: true; the input reads as it did. -/
def sealOwnSpec : ChangeSpec := { name := "sealOwn", fn := fun _ => fun
  | [d1, d2] => { results := [.lit (.bool true)], args := [d1, d2] }
  | _ => none }
def sealOwnRow : OpenClaim := { program := "ytgllokinadjiaaa", sum := "d76f8a38deb4f7036c67e984da9ae7cafddcc25ec09bb2a5a7ced2502988fd49", func := "synodal/synodallaw17.SealOwn", spec := "sealOwn", inPlace := ["internal/reflectlite.TypeOf"], unfollowed := true, recurses := true, apart := false }
def SealOwnSaid : Prop := sealOwnRow.holds Try.pinned (OpenSpec.ofChange sealOwnSpec)

/-- ITS FALSE NEIGHBOUR: 'it returns false'. Refute it at one input. -/
def sealOwnWrong : ChangeSpec := { name := "sealOwn", fn := fun _ => fun
  | [d1, d2] => { results := [.lit (.bool false)], args := [d1, d2] }
  | _ => none }
def SealOwnWrongFalsely : Prop := sealOwnRow.holds Try.pinned (OpenSpec.ofChange sealOwnWrong)

/- THE SECOND FORM. 'bulk': how many values and letters a reading holds, each counted each time it is reached (what is shared counts as often as it is met; a slice's spare places count too). A statement '..UptoSaid' is the law's where the arguments, and the package variables that the reading takes, are together of bulk at most 1048576: NARROWER than '..Said'. Prove '..Said' where nothing that the law and all that it calls make is longer than what came in: it says more and counts as full. Else prove '..UptoSaid'. A law counts once. -/
mutual
def uptoBulk {H : Type} : DataW H → Nat
  | .lit (.string bytes) => bytes.length + 1
  | .lit _ => 1
  | .nil => 1
  | .ptr d => uptoBulk d + 1
  | .slice elems spare => uptoBulkAll elems + uptoBulkAll spare + 1
  | .agg parts => uptoBulkAll parts + 1
  | .iface _ d => uptoBulk d + 1
  | .map entries => uptoBulkEntries entries + 1
  | .held _ => 1
def uptoBulkAll {H : Type} : List (DataW H) → Nat
  | [] => 0
  | d :: r => uptoBulk d + uptoBulkAll r
def uptoBulkEntries {H : Type} : List (Lit × DataW H) → Nat
  | [] => 0
  | x :: r => uptoBulkEntry x + uptoBulkEntries r
def uptoBulkEntry {H : Type} : Lit × DataW H → Nat
  | (.string bytes, d) => bytes.length + uptoBulk d + 1
  | (_, d) => uptoBulk d + 1
 end
def uptoSmall : (H : Type) → List (DataW H) → Bool := fun _ ds => decide (uptoBulkAll ds ≤ 1048576)
def OpenSpec.upto (s : _root_.Go.ChangeSpec) : _root_.Go.OpenSpec := { _root_.Go.OpenSpec.ofChange s with cond := some uptoSmall }

/-- 'synodallaw17.SealIndexes', WHERE WHAT IT READS IS OF BULK AT MOST 1048576: true; the input reads as it did. -/
def sealIndexesUptoRow : OpenClaim := { program := "ytgllokinadjiaaa", sum := "d76f8a38deb4f7036c67e984da9ae7cafddcc25ec09bb2a5a7ced2502988fd49", func := "synodal/synodallaw17.SealIndexes", spec := "sealIndexes", inPlace := ["internal/reflectlite.TypeOf"], unfollowed := true, recurses := true, apart := false, narrowed := true }
def SealIndexesUptoSaid : Prop := sealIndexesUptoRow.holds Try.pinned (OpenSpec.upto sealIndexesSpec)

/-- 'synodallaw17.SealRefuses', WHERE WHAT IT READS IS OF BULK AT MOST 1048576: true; the input reads as it did. -/
def sealRefusesUptoRow : OpenClaim := { program := "ytgllokinadjiaaa", sum := "d76f8a38deb4f7036c67e984da9ae7cafddcc25ec09bb2a5a7ced2502988fd49", func := "synodal/synodallaw17.SealRefuses", spec := "sealRefuses", inPlace := ["internal/reflectlite.TypeOf"], unfollowed := true, recurses := true, apart := false, narrowed := true }
def SealRefusesUptoSaid : Prop := sealRefusesUptoRow.holds Try.pinned (OpenSpec.upto sealRefusesSpec)

/-- 'synodallaw17.SealOwn', WHERE WHAT IT READS IS OF BULK AT MOST 1048576: true; the input reads as it did. -/
def sealOwnUptoRow : OpenClaim := { program := "ytgllokinadjiaaa", sum := "d76f8a38deb4f7036c67e984da9ae7cafddcc25ec09bb2a5a7ced2502988fd49", func := "synodal/synodallaw17.SealOwn", spec := "sealOwn", inPlace := ["internal/reflectlite.TypeOf"], unfollowed := true, recurses := true, apart := false, narrowed := true }
def SealOwnUptoSaid : Prop := sealOwnUptoRow.holds Try.pinned (OpenSpec.upto sealOwnSpec)

end Rows
end Go.Proofs.Ytgllokinadjiaaa
