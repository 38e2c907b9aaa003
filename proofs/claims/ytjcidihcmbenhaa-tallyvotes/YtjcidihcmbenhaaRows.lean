/-
  No cell of these rows narrows 'for every input' (looked for: loops, veiled, ifaces, maps, wideKeys, modest, calm, conditions, laid).
  DERIVED. THE GIVEN ROWS OF THIS SEAT. 5 by the template 'for every input the law returns true; each argument reads behind the call as it read before'; 0 by the template 'total and deterministic' (their statements: YtjcidihcmbenhaaTotals.lean).
  GIVEN WITH THE SEED: the statements are not yours to turn. If you find one false, say at which input.
  Laid BY PROGRAM, IN A SANDBOX (cutbox-rows.mjs): the forced cells as the released guide's own fill.sh prints them over the translation 89b3894a32363962… (all of the seat's roots in one cut). By AI agents, Wed Nov 11 2026. No macro, syntax, notation, axiom, sorry.
-/
import Derived.Test.YtjcidihcmbenhaaChecked
import GoSem.Claim
import GoSem.ClaimJoined
import GoSem.ClaimMapViews
import Derived.JoinedTies
import Derived.KernelRfl
namespace Go.Proofs.Ytjcidihcmbenhaa
/- THE CELL 'sum', in the pinned program and in every row, IS THE sha256 OF THE DUMP (.gsa) THAT YtjcidihcmbenhaaProg.lean LOADS. Nothing in Lean hashes anything: it is a label: what it is worth is what the hold of that sum in a sandbox is worth. -/
noncomputable def Try.pinned : Pinned := { name := "ytjcidihcmbenhaa", sum := "89b3894a3236396285371e464debc8ec570495c0324b8026952d6c732e2cf7c6", checked := Try.checked }
namespace Rows
def none {H : Type} : Left H := { results := [], args := [] }

/-- 'synodallaw9.TallyReach': WHATEVER THE INPUT: true; the input reads as it did. -/
def tallyReachSpec : ChangeSpec := { name := "tallyReach", fn := fun _ => fun
  | [d1, d2, d3] => { results := [.lit (.bool true)], args := [d1, d2, d3] }
  | _ => none }
def tallyReachRow : OpenClaim := { program := "ytjcidihcmbenhaa", sum := "89b3894a3236396285371e464debc8ec570495c0324b8026952d6c732e2cf7c6", func := "synodal/synodallaw9.TallyReach", spec := "tallyReach", unfollowed := true, recurses := true, apart := false }
def TallyReachSaid : Prop := tallyReachRow.holds Try.pinned (OpenSpec.ofChange tallyReachSpec)

/-- ITS FALSE NEIGHBOUR: 'it returns false'. Refute it at one input. -/
def tallyReachWrong : ChangeSpec := { name := "tallyReach", fn := fun _ => fun
  | [d1, d2, d3] => { results := [.lit (.bool false)], args := [d1, d2, d3] }
  | _ => none }
def TallyReachWrongFalsely : Prop := tallyReachRow.holds Try.pinned (OpenSpec.ofChange tallyReachWrong)

/-- 'synodallaw9.TallyVotes': WHATEVER THE INPUT: true; the input reads as it did. -/
def tallyVotesSpec : ChangeSpec := { name := "tallyVotes", fn := fun _ => fun
  | [d1, d2, d3] => { results := [.lit (.bool true)], args := [d1, d2, d3] }
  | _ => none }
def tallyVotesRow : OpenClaim := { program := "ytjcidihcmbenhaa", sum := "89b3894a3236396285371e464debc8ec570495c0324b8026952d6c732e2cf7c6", func := "synodal/synodallaw9.TallyVotes", spec := "tallyVotes", unfollowed := true, recurses := true, apart := false }
def TallyVotesSaid : Prop := tallyVotesRow.holds Try.pinned (OpenSpec.ofChange tallyVotesSpec)

/-- ITS FALSE NEIGHBOUR: 'it returns false'. Refute it at one input. -/
def tallyVotesWrong : ChangeSpec := { name := "tallyVotes", fn := fun _ => fun
  | [d1, d2, d3] => { results := [.lit (.bool false)], args := [d1, d2, d3] }
  | _ => none }
def TallyVotesWrongFalsely : Prop := tallyVotesRow.holds Try.pinned (OpenSpec.ofChange tallyVotesWrong)

/-- 'synodallaw9.TallyMore': WHATEVER THE INPUT: true; the input reads as it did. -/
def tallyMoreSpec : ChangeSpec := { name := "tallyMore", fn := fun _ => fun
  | [d1, d2, d3, d4, d5] => { results := [.lit (.bool true)], args := [d1, d2, d3, d4, d5] }
  | _ => none }
def tallyMoreRow : OpenClaim := { program := "ytjcidihcmbenhaa", sum := "89b3894a3236396285371e464debc8ec570495c0324b8026952d6c732e2cf7c6", func := "synodal/synodallaw9.TallyMore", spec := "tallyMore", unfollowed := true, recurses := true, apart := false }
def TallyMoreSaid : Prop := tallyMoreRow.holds Try.pinned (OpenSpec.ofChange tallyMoreSpec)

/-- ITS FALSE NEIGHBOUR: 'it returns false'. Refute it at one input. -/
def tallyMoreWrong : ChangeSpec := { name := "tallyMore", fn := fun _ => fun
  | [d1, d2, d3, d4, d5] => { results := [.lit (.bool false)], args := [d1, d2, d3, d4, d5] }
  | _ => none }
def TallyMoreWrongFalsely : Prop := tallyMoreRow.holds Try.pinned (OpenSpec.ofChange tallyMoreWrong)

/-- 'synodallaw9.TallySplit': WHATEVER THE INPUT: true; the input reads as it did. -/
def tallySplitSpec : ChangeSpec := { name := "tallySplit", fn := fun _ => fun
  | [d1, d2] => { results := [.lit (.bool true)], args := [d1, d2] }
  | _ => none }
def tallySplitRow : OpenClaim := { program := "ytjcidihcmbenhaa", sum := "89b3894a3236396285371e464debc8ec570495c0324b8026952d6c732e2cf7c6", func := "synodal/synodallaw9.TallySplit", spec := "tallySplit", unfollowed := true, recurses := true, apart := false }
def TallySplitSaid : Prop := tallySplitRow.holds Try.pinned (OpenSpec.ofChange tallySplitSpec)

/-- ITS FALSE NEIGHBOUR: 'it returns false'. Refute it at one input. -/
def tallySplitWrong : ChangeSpec := { name := "tallySplit", fn := fun _ => fun
  | [d1, d2] => { results := [.lit (.bool false)], args := [d1, d2] }
  | _ => none }
def TallySplitWrongFalsely : Prop := tallySplitRow.holds Try.pinned (OpenSpec.ofChange tallySplitWrong)

/-- 'synodallaw9.TallyHalf': WHATEVER THE INPUT: true; the input reads as it did. -/
def tallyHalfSpec : ChangeSpec := { name := "tallyHalf", fn := fun _ => fun
  | [d1, d2] => { results := [.lit (.bool true)], args := [d1, d2] }
  | _ => none }
def tallyHalfRow : OpenClaim := { program := "ytjcidihcmbenhaa", sum := "89b3894a3236396285371e464debc8ec570495c0324b8026952d6c732e2cf7c6", func := "synodal/synodallaw9.TallyHalf", spec := "tallyHalf", unfollowed := true, recurses := true, apart := false }
def TallyHalfSaid : Prop := tallyHalfRow.holds Try.pinned (OpenSpec.ofChange tallyHalfSpec)

/-- ITS FALSE NEIGHBOUR: 'it returns false'. Refute it at one input. -/
def tallyHalfWrong : ChangeSpec := { name := "tallyHalf", fn := fun _ => fun
  | [d1, d2] => { results := [.lit (.bool false)], args := [d1, d2] }
  | _ => none }
def TallyHalfWrongFalsely : Prop := tallyHalfRow.holds Try.pinned (OpenSpec.ofChange tallyHalfWrong)

/- THE SECOND FORM. 'bulk': how many values and letters a reading holds, each counted each time it is reached (what is shared counts as often as it is met; a slice's spare places count too). A statement '..UptoSaid' is the law's where the arguments, and the package variables that the reading takes, are together of bulk at most 1048576: NARROWER than '..Said'. Prove '..Said' where nothing that the law and all that it calls make is longer than what came in: it says more and counts as full. Else prove '..UptoSaid'. A law counts once. -/
mutual
def uptoBulk {H : Type} : DataW H → Nat
  | .lit (.string bytes) => bytes.length + 1
  | .lit _ => 1
  | .nil => 1
  | .ptr d => uptoBulk d + 1
  | .slice elems spare => uptoBulkAll elems + uptoBulkAll spare + 1
  | .agg parts => uptoBulkAll parts + 1
  | .iface _ d => uptoBulk d + 1
  | .map entries => uptoBulkEntries entries + 1
  | .held _ => 1
def uptoBulkAll {H : Type} : List (DataW H) → Nat
  | [] => 0
  | d :: r => uptoBulk d + uptoBulkAll r
def uptoBulkEntries {H : Type} : List (Lit × DataW H) → Nat
  | [] => 0
  | x :: r => uptoBulkEntry x + uptoBulkEntries r
def uptoBulkEntry {H : Type} : Lit × DataW H → Nat
  | (.string bytes, d) => bytes.length + uptoBulk d + 1
  | (_, d) => uptoBulk d + 1
 end
def uptoSmall : (H : Type) → List (DataW H) → Bool := fun _ ds => decide (uptoBulkAll ds ≤ 1048576)
def OpenSpec.upto (s : _root_.Go.ChangeSpec) : _root_.Go.OpenSpec := { _root_.Go.OpenSpec.ofChange s with cond := some uptoSmall }

/-- 'synodallaw9.TallyReach', WHERE WHAT IT READS IS OF BULK AT MOST 1048576: true; the input reads as it did. -/
def tallyReachUptoRow : OpenClaim := { program := "ytjcidihcmbenhaa", sum := "89b3894a3236396285371e464debc8ec570495c0324b8026952d6c732e2cf7c6", func := "synodal/synodallaw9.TallyReach", spec := "tallyReach", unfollowed := true, recurses := true, apart := false, narrowed := true }
def TallyReachUptoSaid : Prop := tallyReachUptoRow.holds Try.pinned (OpenSpec.upto tallyReachSpec)

/-- 'synodallaw9.TallyVotes', WHERE WHAT IT READS IS OF BULK AT MOST 1048576: true; the input reads as it did. -/
def tallyVotesUptoRow : OpenClaim := { program := "ytjcidihcmbenhaa", sum := "89b3894a3236396285371e464debc8ec570495c0324b8026952d6c732e2cf7c6", func := "synodal/synodallaw9.TallyVotes", spec := "tallyVotes", unfollowed := true, recurses := true, apart := false, narrowed := true }
def TallyVotesUptoSaid : Prop := tallyVotesUptoRow.holds Try.pinned (OpenSpec.upto tallyVotesSpec)

/-- 'synodallaw9.TallyMore', WHERE WHAT IT READS IS OF BULK AT MOST 1048576: true; the input reads as it did. -/
def tallyMoreUptoRow : OpenClaim := { program := "ytjcidihcmbenhaa", sum := "89b3894a3236396285371e464debc8ec570495c0324b8026952d6c732e2cf7c6", func := "synodal/synodallaw9.TallyMore", spec := "tallyMore", unfollowed := true, recurses := true, apart := false, narrowed := true }
def TallyMoreUptoSaid : Prop := tallyMoreUptoRow.holds Try.pinned (OpenSpec.upto tallyMoreSpec)

/-- 'synodallaw9.TallySplit', WHERE WHAT IT READS IS OF BULK AT MOST 1048576: true; the input reads as it did. -/
def tallySplitUptoRow : OpenClaim := { program := "ytjcidihcmbenhaa", sum := "89b3894a3236396285371e464debc8ec570495c0324b8026952d6c732e2cf7c6", func := "synodal/synodallaw9.TallySplit", spec := "tallySplit", unfollowed := true, recurses := true, apart := false, narrowed := true }
def TallySplitUptoSaid : Prop := tallySplitUptoRow.holds Try.pinned (OpenSpec.upto tallySplitSpec)

/-- 'synodallaw9.TallyHalf', WHERE WHAT IT READS IS OF BULK AT MOST 1048576: true; the input reads as it did. -/
def tallyHalfUptoRow : OpenClaim := { program := "ytjcidihcmbenhaa", sum := "89b3894a3236396285371e464debc8ec570495c0324b8026952d6c732e2cf7c6", func := "synodal/synodallaw9.TallyHalf", spec := "tallyHalf", unfollowed := true, recurses := true, apart := false, narrowed := true }
def TallyHalfUptoSaid : Prop := tallyHalfUptoRow.holds Try.pinned (OpenSpec.upto tallyHalfSpec)

end Rows
end Go.Proofs.Ytjcidihcmbenhaa
