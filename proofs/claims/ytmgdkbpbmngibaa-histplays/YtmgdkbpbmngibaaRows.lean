/-
  No cell of these rows narrows 'for every input' (looked for: loops, veiled, ifaces, maps, wideKeys, modest, calm, conditions, laid).
  DERIVED. THE GIVEN ROWS OF THIS SEAT. 6 by the template 'for every input the law returns true; each argument reads behind the call as it read before'; 0 by the template 'total and deterministic' (their statements: YtmgdkbpbmngibaaTotals.lean).
  GIVEN WITH THE SEED: the statements are not yours to turn. If you find one false, say at which input.
  Laid BY PROGRAM, IN A SANDBOX (cutbox-rows.mjs): the forced cells as the released guide's own fill.sh prints them over the translation 678d77bf08b16a6b… (all of the seat's roots in one cut). By AI agents, Wed Nov 11 2026. No macro, syntax, notation, axiom, sorry.
-/
import Derived.Test.YtmgdkbpbmngibaaChecked
import GoSem.Claim
import GoSem.ClaimJoined
import GoSem.ClaimMapViews
import Derived.JoinedTies
import Derived.KernelRfl
namespace Go.Proofs.Ytmgdkbpbmngibaa
/- THE CELL 'sum', in the pinned program and in every row, IS THE sha256 OF THE DUMP (.gsa) THAT YtmgdkbpbmngibaaProg.lean LOADS. Nothing in Lean hashes anything: it is a label: what it is worth is what the hold of that sum in a sandbox is worth. -/
noncomputable def Try.pinned : Pinned := { name := "ytmgdkbpbmngibaa", sum := "678d77bf08b16a6b83c5103567aef7c1cf30891e925accc31c7d506e7679379e", checked := Try.checked }
namespace Rows
def none {H : Type} : Left H := { results := [], args := [] }

/-- 'synodallaw10.HistPlays': WHATEVER THE INPUT: true; the input reads as it did. -/
def histPlaysSpec : ChangeSpec := { name := "histPlays", fn := fun _ => fun
  | [d1, d2, d3] => { results := [.lit (.bool true)], args := [d1, d2, d3] }
  | _ => none }
def histPlaysRow : OpenClaim := { program := "ytmgdkbpbmngibaa", sum := "678d77bf08b16a6b83c5103567aef7c1cf30891e925accc31c7d506e7679379e", func := "synodal/synodallaw10.HistPlays", spec := "histPlays", unfollowed := true, recurses := true, apart := false }
def HistPlaysSaid : Prop := histPlaysRow.holds Try.pinned (OpenSpec.ofChange histPlaysSpec)

/-- ITS FALSE NEIGHBOUR: 'it returns false'. Refute it at one input. -/
def histPlaysWrong : ChangeSpec := { name := "histPlays", fn := fun _ => fun
  | [d1, d2, d3] => { results := [.lit (.bool false)], args := [d1, d2, d3] }
  | _ => none }
def HistPlaysWrongFalsely : Prop := histPlaysRow.holds Try.pinned (OpenSpec.ofChange histPlaysWrong)

/-- 'synodallaw10.HistAgain': WHATEVER THE INPUT: true; the input reads as it did. -/
def histAgainSpec : ChangeSpec := { name := "histAgain", fn := fun _ => fun
  | [d1, d2, d3] => { results := [.lit (.bool true)], args := [d1, d2, d3] }
  | _ => none }
def histAgainRow : OpenClaim := { program := "ytmgdkbpbmngibaa", sum := "678d77bf08b16a6b83c5103567aef7c1cf30891e925accc31c7d506e7679379e", func := "synodal/synodallaw10.HistAgain", spec := "histAgain", apart := false }
def HistAgainSaid : Prop := histAgainRow.holds Try.pinned (OpenSpec.ofChange histAgainSpec)

/-- ITS FALSE NEIGHBOUR: 'it returns false'. Refute it at one input. -/
def histAgainWrong : ChangeSpec := { name := "histAgain", fn := fun _ => fun
  | [d1, d2, d3] => { results := [.lit (.bool false)], args := [d1, d2, d3] }
  | _ => none }
def HistAgainWrongFalsely : Prop := histAgainRow.holds Try.pinned (OpenSpec.ofChange histAgainWrong)

/-- 'synodallaw10.HistTerms': WHATEVER THE INPUT: true; the input reads as it did. -/
def histTermsSpec : ChangeSpec := { name := "histTerms", fn := fun _ => fun
  | [d] => { results := [.lit (.bool true)], args := [d] }
  | _ => none }
def histTermsRow : OpenClaim := { program := "ytmgdkbpbmngibaa", sum := "678d77bf08b16a6b83c5103567aef7c1cf30891e925accc31c7d506e7679379e", func := "synodal/synodallaw10.HistTerms", spec := "histTerms", apart := false }
def HistTermsSaid : Prop := histTermsRow.holds Try.pinned (OpenSpec.ofChange histTermsSpec)

/-- ITS FALSE NEIGHBOUR: 'it returns false'. Refute it at one input. -/
def histTermsWrong : ChangeSpec := { name := "histTerms", fn := fun _ => fun
  | [d] => { results := [.lit (.bool false)], args := [d] }
  | _ => none }
def HistTermsWrongFalsely : Prop := histTermsRow.holds Try.pinned (OpenSpec.ofChange histTermsWrong)

/-- 'synodallaw10.HistLeaders': WHATEVER THE INPUT: true; the input reads as it did. -/
def histLeadersSpec : ChangeSpec := { name := "histLeaders", fn := fun _ => fun
  | [d1, d2] => { results := [.lit (.bool true)], args := [d1, d2] }
  | _ => none }
def histLeadersRow : OpenClaim := { program := "ytmgdkbpbmngibaa", sum := "678d77bf08b16a6b83c5103567aef7c1cf30891e925accc31c7d506e7679379e", func := "synodal/synodallaw10.HistLeaders", spec := "histLeaders", apart := false }
def HistLeadersSaid : Prop := histLeadersRow.holds Try.pinned (OpenSpec.ofChange histLeadersSpec)

/-- ITS FALSE NEIGHBOUR: 'it returns false'. Refute it at one input. -/
def histLeadersWrong : ChangeSpec := { name := "histLeaders", fn := fun _ => fun
  | [d1, d2] => { results := [.lit (.bool false)], args := [d1, d2] }
  | _ => none }
def HistLeadersWrongFalsely : Prop := histLeadersRow.holds Try.pinned (OpenSpec.ofChange histLeadersWrong)

/-- 'synodallaw10.HistMembers': WHATEVER THE INPUT: true; the input reads as it did. -/
def histMembersSpec : ChangeSpec := { name := "histMembers", fn := fun _ => fun
  | [d1, d2] => { results := [.lit (.bool true)], args := [d1, d2] }
  | _ => none }
def histMembersRow : OpenClaim := { program := "ytmgdkbpbmngibaa", sum := "678d77bf08b16a6b83c5103567aef7c1cf30891e925accc31c7d506e7679379e", func := "synodal/synodallaw10.HistMembers", spec := "histMembers", unfollowed := true, recurses := true, apart := false }
def HistMembersSaid : Prop := histMembersRow.holds Try.pinned (OpenSpec.ofChange histMembersSpec)

/-- ITS FALSE NEIGHBOUR: 'it returns false'. Refute it at one input. -/
def histMembersWrong : ChangeSpec := { name := "histMembers", fn := fun _ => fun
  | [d1, d2] => { results := [.lit (.bool false)], args := [d1, d2] }
  | _ => none }
def HistMembersWrongFalsely : Prop := histMembersRow.holds Try.pinned (OpenSpec.ofChange histMembersWrong)

/-- 'synodallaw10.HistNewer': WHATEVER THE INPUT: true; the input reads as it did. -/
def histNewerSpec : ChangeSpec := { name := "histNewer", fn := fun _ => fun
  | [d1, d2] => { results := [.lit (.bool true)], args := [d1, d2] }
  | _ => none }
def histNewerRow : OpenClaim := { program := "ytmgdkbpbmngibaa", sum := "678d77bf08b16a6b83c5103567aef7c1cf30891e925accc31c7d506e7679379e", func := "synodal/synodallaw10.HistNewer", spec := "histNewer", apart := false }
def HistNewerSaid : Prop := histNewerRow.holds Try.pinned (OpenSpec.ofChange histNewerSpec)

/-- ITS FALSE NEIGHBOUR: 'it returns false'. Refute it at one input. -/
def histNewerWrong : ChangeSpec := { name := "histNewer", fn := fun _ => fun
  | [d1, d2] => { results := [.lit (.bool false)], args := [d1, d2] }
  | _ => none }
def HistNewerWrongFalsely : Prop := histNewerRow.holds Try.pinned (OpenSpec.ofChange histNewerWrong)

/- THE SECOND FORM. 'bulk': how many values and letters a reading holds, each counted each time it is reached (what is shared counts as often as it is met; a slice's spare places count too). A statement '..UptoSaid' is the law's where the arguments, and the package variables that the reading takes, are together of bulk at most 1048576: NARROWER than '..Said'. Prove '..Said' where nothing that the law and all that it calls make is longer than what came in: it says more and counts as full. Else prove '..UptoSaid'. A law counts once. -/
mutual
def uptoBulk {H : Type} : DataW H → Nat
  | .lit (.string bytes) => bytes.length + 1
  | .lit _ => 1
  | .nil => 1
  | .ptr d => uptoBulk d + 1
  | .slice elems spare => uptoBulkAll elems + uptoBulkAll spare + 1
  | .agg parts => uptoBulkAll parts + 1
  | .iface _ d => uptoBulk d + 1
  | .map entries => uptoBulkEntries entries + 1
  | .held _ => 1
def uptoBulkAll {H : Type} : List (DataW H) → Nat
  | [] => 0
  | d :: r => uptoBulk d + uptoBulkAll r
def uptoBulkEntries {H : Type} : List (Lit × DataW H) → Nat
  | [] => 0
  | x :: r => uptoBulkEntry x + uptoBulkEntries r
def uptoBulkEntry {H : Type} : Lit × DataW H → Nat
  | (.string bytes, d) => bytes.length + uptoBulk d + 1
  | (_, d) => uptoBulk d + 1
 end
def uptoSmall : (H : Type) → List (DataW H) → Bool := fun _ ds => decide (uptoBulkAll ds ≤ 1048576)
def OpenSpec.upto (s : _root_.Go.ChangeSpec) : _root_.Go.OpenSpec := { _root_.Go.OpenSpec.ofChange s with cond := some uptoSmall }

/-- 'synodallaw10.HistPlays', WHERE WHAT IT READS IS OF BULK AT MOST 1048576: true; the input reads as it did. -/
def histPlaysUptoRow : OpenClaim := { program := "ytmgdkbpbmngibaa", sum := "678d77bf08b16a6b83c5103567aef7c1cf30891e925accc31c7d506e7679379e", func := "synodal/synodallaw10.HistPlays", spec := "histPlays", unfollowed := true, recurses := true, apart := false, narrowed := true }
def HistPlaysUptoSaid : Prop := histPlaysUptoRow.holds Try.pinned (OpenSpec.upto histPlaysSpec)

/-- 'synodallaw10.HistAgain', WHERE WHAT IT READS IS OF BULK AT MOST 1048576: true; the input reads as it did. -/
def histAgainUptoRow : OpenClaim := { program := "ytmgdkbpbmngibaa", sum := "678d77bf08b16a6b83c5103567aef7c1cf30891e925accc31c7d506e7679379e", func := "synodal/synodallaw10.HistAgain", spec := "histAgain", apart := false, narrowed := true }
def HistAgainUptoSaid : Prop := histAgainUptoRow.holds Try.pinned (OpenSpec.upto histAgainSpec)

/-- 'synodallaw10.HistTerms', WHERE WHAT IT READS IS OF BULK AT MOST 1048576: true; the input reads as it did. -/
def histTermsUptoRow : OpenClaim := { program := "ytmgdkbpbmngibaa", sum := "678d77bf08b16a6b83c5103567aef7c1cf30891e925accc31c7d506e7679379e", func := "synodal/synodallaw10.HistTerms", spec := "histTerms", apart := false, narrowed := true }
def HistTermsUptoSaid : Prop := histTermsUptoRow.holds Try.pinned (OpenSpec.upto histTermsSpec)

/-- 'synodallaw10.HistLeaders', WHERE WHAT IT READS IS OF BULK AT MOST 1048576: true; the input reads as it did. -/
def histLeadersUptoRow : OpenClaim := { program := "ytmgdkbpbmngibaa", sum := "678d77bf08b16a6b83c5103567aef7c1cf30891e925accc31c7d506e7679379e", func := "synodal/synodallaw10.HistLeaders", spec := "histLeaders", apart := false, narrowed := true }
def HistLeadersUptoSaid : Prop := histLeadersUptoRow.holds Try.pinned (OpenSpec.upto histLeadersSpec)

/-- 'synodallaw10.HistMembers', WHERE WHAT IT READS IS OF BULK AT MOST 1048576: true; the input reads as it did. -/
def histMembersUptoRow : OpenClaim := { program := "ytmgdkbpbmngibaa", sum := "678d77bf08b16a6b83c5103567aef7c1cf30891e925accc31c7d506e7679379e", func := "synodal/synodallaw10.HistMembers", spec := "histMembers", unfollowed := true, recurses := true, apart := false, narrowed := true }
def HistMembersUptoSaid : Prop := histMembersUptoRow.holds Try.pinned (OpenSpec.upto histMembersSpec)

/-- 'synodallaw10.HistNewer', WHERE WHAT IT READS IS OF BULK AT MOST 1048576: true; the input reads as it did. -/
def histNewerUptoRow : OpenClaim := { program := "ytmgdkbpbmngibaa", sum := "678d77bf08b16a6b83c5103567aef7c1cf30891e925accc31c7d506e7679379e", func := "synodal/synodallaw10.HistNewer", spec := "histNewer", apart := false, narrowed := true }
def HistNewerUptoSaid : Prop := histNewerUptoRow.holds Try.pinned (OpenSpec.upto histNewerSpec)

end Rows
end Go.Proofs.Ytmgdkbpbmngibaa
