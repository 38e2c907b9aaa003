/-
  No cell of these rows narrows 'for every input' (looked for: loops, veiled, ifaces, maps, wideKeys, modest, calm, conditions, laid).
  DERIVED. THE GIVEN ROWS OF THIS SEAT. 6 by the template 'for every input the law returns true; each argument reads behind the call as it read before'; 0 by the template 'total and deterministic' (their statements: YtndpkpkijfplaaaTotals.lean).
  GIVEN WITH THE SEED: the statements are not yours to turn. If you find one false, say at which input.
  Laid BY PROGRAM, IN A SANDBOX (cutbox-rows.mjs): the forced cells as the released guide's own fill.sh prints them over the translation c8528af246c49b90… (all of the seat's roots in one cut). By AI agents, Wed Nov 11 2026. No macro, syntax, notation, axiom, sorry.
-/
import Derived.Test.YtndpkpkijfplaaaChecked
import GoSem.Claim
import GoSem.ClaimJoined
import GoSem.ClaimMapViews
import Derived.JoinedTies
import Derived.KernelRfl
namespace Go.Proofs.Ytndpkpkijfplaaa
/- THE CELL 'sum', in the pinned program and in every row, IS THE sha256 OF THE DUMP (.gsa) THAT YtndpkpkijfplaaaProg.lean LOADS. Nothing in Lean hashes anything: it is a label: what it is worth is what the hold of that sum in a sandbox is worth. -/
noncomputable def Try.pinned : Pinned := { name := "ytndpkpkijfplaaa", sum := "c8528af246c49b9028e7337853a03888441ee54443c0bed1181b73bb284d19ab", checked := Try.checked }
namespace Rows
def none {H : Type} : Left H := { results := [], args := [] }

/-- 'synodallaw19.SpecChecks': WHATEVER THE INPUT: true; the input reads as it did. -/
def specChecksSpec : ChangeSpec := { name := "specChecks", fn := fun _ => fun
  | [d1, d2, d3, d4] => { results := [.lit (.bool true)], args := [d1, d2, d3, d4] }
  | _ => none }
def specChecksRow : OpenClaim := { program := "ytndpkpkijfplaaa", sum := "c8528af246c49b9028e7337853a03888441ee54443c0bed1181b73bb284d19ab", func := "synodal/synodallaw19.SpecChecks", spec := "specChecks", unfollowed := true, recurses := true, plainKeys := false, apart := false }
def SpecChecksSaid : Prop := specChecksRow.holds Try.pinned (OpenSpec.ofChange specChecksSpec)

/-- ITS FALSE NEIGHBOUR: 'it returns false'. Refute it at one input. -/
def specChecksWrong : ChangeSpec := { name := "specChecks", fn := fun _ => fun
  | [d1, d2, d3, d4] => { results := [.lit (.bool false)], args := [d1, d2, d3, d4] }
  | _ => none }
def SpecChecksWrongFalsely : Prop := specChecksRow.holds Try.pinned (OpenSpec.ofChange specChecksWrong)

/-- 'synodallaw19.SpecGood': WHATEVER THE INPUT: true; the input reads as it did. -/
def specGoodSpec : ChangeSpec := { name := "specGood", fn := fun _ => fun
  | [d] => { results := [.lit (.bool true)], args := [d] }
  | _ => none }
def specGoodRow : OpenClaim := { program := "ytndpkpkijfplaaa", sum := "c8528af246c49b9028e7337853a03888441ee54443c0bed1181b73bb284d19ab", func := "synodal/synodallaw19.SpecGood", spec := "specGood", plainKeys := false, apart := false }
def SpecGoodSaid : Prop := specGoodRow.holds Try.pinned (OpenSpec.ofChange specGoodSpec)

/-- ITS FALSE NEIGHBOUR: 'it returns false'. Refute it at one input. -/
def specGoodWrong : ChangeSpec := { name := "specGood", fn := fun _ => fun
  | [d] => { results := [.lit (.bool false)], args := [d] }
  | _ => none }
def SpecGoodWrongFalsely : Prop := specGoodRow.holds Try.pinned (OpenSpec.ofChange specGoodWrong)

/-- 'synodallaw19.SpecFits': WHATEVER THE INPUT: true; the input reads as it did. -/
def specFitsSpec : ChangeSpec := { name := "specFits", fn := fun _ => fun
  | [d] => { results := [.lit (.bool true)], args := [d] }
  | _ => none }
def specFitsRow : OpenClaim := { program := "ytndpkpkijfplaaa", sum := "c8528af246c49b9028e7337853a03888441ee54443c0bed1181b73bb284d19ab", func := "synodal/synodallaw19.SpecFits", spec := "specFits", unfollowed := true, recurses := true, plainKeys := false, apart := false }
def SpecFitsSaid : Prop := specFitsRow.holds Try.pinned (OpenSpec.ofChange specFitsSpec)

/-- ITS FALSE NEIGHBOUR: 'it returns false'. Refute it at one input. -/
def specFitsWrong : ChangeSpec := { name := "specFits", fn := fun _ => fun
  | [d] => { results := [.lit (.bool false)], args := [d] }
  | _ => none }
def SpecFitsWrongFalsely : Prop := specFitsRow.holds Try.pinned (OpenSpec.ofChange specFitsWrong)

/-- 'synodallaw19.SpecFronts': WHATEVER THE INPUT: true; the input reads as it did. -/
def specFrontsSpec : ChangeSpec := { name := "specFronts", fn := fun _ => fun
  | [d1, d2] => { results := [.lit (.bool true)], args := [d1, d2] }
  | _ => none }
def specFrontsRow : OpenClaim := { program := "ytndpkpkijfplaaa", sum := "c8528af246c49b9028e7337853a03888441ee54443c0bed1181b73bb284d19ab", func := "synodal/synodallaw19.SpecFronts", spec := "specFronts", plainKeys := false, apart := false }
def SpecFrontsSaid : Prop := specFrontsRow.holds Try.pinned (OpenSpec.ofChange specFrontsSpec)

/-- ITS FALSE NEIGHBOUR: 'it returns false'. Refute it at one input. -/
def specFrontsWrong : ChangeSpec := { name := "specFronts", fn := fun _ => fun
  | [d1, d2] => { results := [.lit (.bool false)], args := [d1, d2] }
  | _ => none }
def SpecFrontsWrongFalsely : Prop := specFrontsRow.holds Try.pinned (OpenSpec.ofChange specFrontsWrong)

/-- 'synodallaw19.SpecWrong': WHATEVER THE INPUT: true; the input reads as it did. -/
def specWrongSpec : ChangeSpec := { name := "specWrong", fn := fun _ => fun
  | [d1, d2] => { results := [.lit (.bool true)], args := [d1, d2] }
  | _ => none }
def specWrongRow : OpenClaim := { program := "ytndpkpkijfplaaa", sum := "c8528af246c49b9028e7337853a03888441ee54443c0bed1181b73bb284d19ab", func := "synodal/synodallaw19.SpecWrong", spec := "specWrong", plainKeys := false, apart := false }
def SpecWrongSaid : Prop := specWrongRow.holds Try.pinned (OpenSpec.ofChange specWrongSpec)

/-- ITS FALSE NEIGHBOUR: 'it returns false'. Refute it at one input. -/
def specWrongWrong : ChangeSpec := { name := "specWrong", fn := fun _ => fun
  | [d1, d2] => { results := [.lit (.bool false)], args := [d1, d2] }
  | _ => none }
def SpecWrongWrongFalsely : Prop := specWrongRow.holds Try.pinned (OpenSpec.ofChange specWrongWrong)

/-- 'synodallaw19.SpecOrders': WHATEVER THE INPUT: true; the input reads as it did. -/
def specOrdersSpec : ChangeSpec := { name := "specOrders", fn := fun _ => fun
  | [d1, d2] => { results := [.lit (.bool true)], args := [d1, d2] }
  | _ => none }
def specOrdersRow : OpenClaim := { program := "ytndpkpkijfplaaa", sum := "c8528af246c49b9028e7337853a03888441ee54443c0bed1181b73bb284d19ab", func := "synodal/synodallaw19.SpecOrders", spec := "specOrders", plainKeys := false, apart := false }
def SpecOrdersSaid : Prop := specOrdersRow.holds Try.pinned (OpenSpec.ofChange specOrdersSpec)

/-- ITS FALSE NEIGHBOUR: 'it returns false'. Refute it at one input. -/
def specOrdersWrong : ChangeSpec := { name := "specOrders", fn := fun _ => fun
  | [d1, d2] => { results := [.lit (.bool false)], args := [d1, d2] }
  | _ => none }
def SpecOrdersWrongFalsely : Prop := specOrdersRow.holds Try.pinned (OpenSpec.ofChange specOrdersWrong)

/- THE SECOND FORM. 'bulk': how many values and letters a reading holds, each counted each time it is reached (what is shared counts as often as it is met; a slice's spare places count too). A statement '..UptoSaid' is the law's where the arguments, and the package variables that the reading takes, are together of bulk at most 1048576: NARROWER than '..Said'. Prove '..Said' where nothing that the law and all that it calls make is longer than what came in: it says more and counts as full. Else prove '..UptoSaid'. A law counts once. -/
mutual
def uptoBulk {H : Type} : DataW H → Nat
  | .lit (.string bytes) => bytes.length + 1
  | .lit _ => 1
  | .nil => 1
  | .ptr d => uptoBulk d + 1
  | .slice elems spare => uptoBulkAll elems + uptoBulkAll spare + 1
  | .agg parts => uptoBulkAll parts + 1
  | .iface _ d => uptoBulk d + 1
  | .map entries => uptoBulkEntries entries + 1
  | .held _ => 1
def uptoBulkAll {H : Type} : List (DataW H) → Nat
  | [] => 0
  | d :: r => uptoBulk d + uptoBulkAll r
def uptoBulkEntries {H : Type} : List (Lit × DataW H) → Nat
  | [] => 0
  | x :: r => uptoBulkEntry x + uptoBulkEntries r
def uptoBulkEntry {H : Type} : Lit × DataW H → Nat
  | (.string bytes, d) => bytes.length + uptoBulk d + 1
  | (_, d) => uptoBulk d + 1
 end
def uptoSmall : (H : Type) → List (DataW H) → Bool := fun _ ds => decide (uptoBulkAll ds ≤ 1048576)
def OpenSpec.upto (s : _root_.Go.ChangeSpec) : _root_.Go.OpenSpec := { _root_.Go.OpenSpec.ofChange s with cond := some uptoSmall }

/-- 'synodallaw19.SpecChecks', WHERE WHAT IT READS IS OF BULK AT MOST 1048576: true; the input reads as it did. -/
def specChecksUptoRow : OpenClaim := { program := "ytndpkpkijfplaaa", sum := "c8528af246c49b9028e7337853a03888441ee54443c0bed1181b73bb284d19ab", func := "synodal/synodallaw19.SpecChecks", spec := "specChecks", unfollowed := true, recurses := true, plainKeys := false, apart := false, narrowed := true }
def SpecChecksUptoSaid : Prop := specChecksUptoRow.holds Try.pinned (OpenSpec.upto specChecksSpec)

/-- 'synodallaw19.SpecGood', WHERE WHAT IT READS IS OF BULK AT MOST 1048576: true; the input reads as it did. -/
def specGoodUptoRow : OpenClaim := { program := "ytndpkpkijfplaaa", sum := "c8528af246c49b9028e7337853a03888441ee54443c0bed1181b73bb284d19ab", func := "synodal/synodallaw19.SpecGood", spec := "specGood", plainKeys := false, apart := false, narrowed := true }
def SpecGoodUptoSaid : Prop := specGoodUptoRow.holds Try.pinned (OpenSpec.upto specGoodSpec)

/-- 'synodallaw19.SpecFits', WHERE WHAT IT READS IS OF BULK AT MOST 1048576: true; the input reads as it did. -/
def specFitsUptoRow : OpenClaim := { program := "ytndpkpkijfplaaa", sum := "c8528af246c49b9028e7337853a03888441ee54443c0bed1181b73bb284d19ab", func := "synodal/synodallaw19.SpecFits", spec := "specFits", unfollowed := true, recurses := true, plainKeys := false, apart := false, narrowed := true }
def SpecFitsUptoSaid : Prop := specFitsUptoRow.holds Try.pinned (OpenSpec.upto specFitsSpec)

/-- 'synodallaw19.SpecFronts', WHERE WHAT IT READS IS OF BULK AT MOST 1048576: true; the input reads as it did. -/
def specFrontsUptoRow : OpenClaim := { program := "ytndpkpkijfplaaa", sum := "c8528af246c49b9028e7337853a03888441ee54443c0bed1181b73bb284d19ab", func := "synodal/synodallaw19.SpecFronts", spec := "specFronts", plainKeys := false, apart := false, narrowed := true }
def SpecFrontsUptoSaid : Prop := specFrontsUptoRow.holds Try.pinned (OpenSpec.upto specFrontsSpec)

/-- 'synodallaw19.SpecWrong', WHERE WHAT IT READS IS OF BULK AT MOST 1048576: true; the input reads as it did. -/
def specWrongUptoRow : OpenClaim := { program := "ytndpkpkijfplaaa", sum := "c8528af246c49b9028e7337853a03888441ee54443c0bed1181b73bb284d19ab", func := "synodal/synodallaw19.SpecWrong", spec := "specWrong", plainKeys := false, apart := false, narrowed := true }
def SpecWrongUptoSaid : Prop := specWrongUptoRow.holds Try.pinned (OpenSpec.upto specWrongSpec)

/-- 'synodallaw19.SpecOrders', WHERE WHAT IT READS IS OF BULK AT MOST 1048576: true; the input reads as it did. -/
def specOrdersUptoRow : OpenClaim := { program := "ytndpkpkijfplaaa", sum := "c8528af246c49b9028e7337853a03888441ee54443c0bed1181b73bb284d19ab", func := "synodal/synodallaw19.SpecOrders", spec := "specOrders", plainKeys := false, apart := false, narrowed := true }
def SpecOrdersUptoSaid : Prop := specOrdersUptoRow.holds Try.pinned (OpenSpec.upto specOrdersSpec)

end Rows
end Go.Proofs.Ytndpkpkijfplaaa
