/-
  DERIVED. GIVEN WITH THE SEED: THE CARDS: each row of YtgllokinadjiaaaGreatDoorRows.lean that lists a variable, with what it lists TIED to the program's text (the seventh form; the later family's looks); each row that meets fmt, with fmt's text TOLD by the authors' own Lean function (tested against real Go, not proved from fmt's source: count such statements apart). THE CARD IS WHAT COUNTS. Prove the row's statement (the work); the ties are given (YtgllokinadjiaaaGreatDoorTie.lean); close each card by the builder's one call (the guide's Derived/Test/ToyasCard.lean, 'card_holds'). Laid BY PROGRAM, IN A SANDBOX (cutbox-door.mjs). By AI agents, Wed Nov 11 2026. No macro, syntax, notation, axiom, sorry.
-/
import Derived.Test.YtgllokinadjiaaaGreatDoorRows
import GoSem.ClaimSeven
namespace Go.Proofs.YtgllokinadjiaaaGreatDoor
namespace Rows

/-- THE TIED CARD OF 'synodallaw17.SealPlays'. -/
def sealPlaysCard : Claim7 := { stood := { row := sealPlaysRow, standIns := [], harness := (true, "46e36b026aba6019568d781bcbabaa9d306d30b12392660b72fbacfe87b6dec9"), looks := true }, kinds := [], alts := [], laidByText := true, laidKinds := [.handle], laidTests := true, laidLooks := .later }
def SealPlaysCardSaid : Prop := Claim7.holds Tryz.pinned (.plain (OpenSpec.ofChange sealPlaysSpec)) sealPlaysCard

/-- THE TIED CARD OF 'synodallaw17.SealReads'. -/
def sealReadsCard : Claim7 := { stood := { row := sealReadsRow, standIns := [], harness := (true, "46e36b026aba6019568d781bcbabaa9d306d30b12392660b72fbacfe87b6dec9"), looks := true }, kinds := [], alts := [], laidByText := true, laidKinds := [.handle], laidTests := true, laidLooks := .later }
def SealReadsCardSaid : Prop := Claim7.holds Tryz.pinned (.plain (OpenSpec.ofChange sealReadsSpec)) sealReadsCard

/-- THE SECOND FORM's CARD OF 'synodallaw17.SealPlays'. -/
def sealPlaysUptoCard : Claim7 := { stood := { row := sealPlaysUptoRow, standIns := [], harness := (true, "46e36b026aba6019568d781bcbabaa9d306d30b12392660b72fbacfe87b6dec9"), looks := true }, kinds := [], alts := [], laidByText := true, laidKinds := [.handle], laidTests := true, laidLooks := .later }
def SealPlaysUptoCardSaid : Prop := Claim7.holds Tryz.pinned (.plain (OpenSpec.upto sealPlaysSpec)) sealPlaysUptoCard

/-- THE SECOND FORM's CARD OF 'synodallaw17.SealReads'. -/
def sealReadsUptoCard : Claim7 := { stood := { row := sealReadsUptoRow, standIns := [], harness := (true, "46e36b026aba6019568d781bcbabaa9d306d30b12392660b72fbacfe87b6dec9"), looks := true }, kinds := [], alts := [], laidByText := true, laidKinds := [.handle], laidTests := true, laidLooks := .later }
def SealReadsUptoCardSaid : Prop := Claim7.holds Tryz.pinned (.plain (OpenSpec.upto sealReadsSpec)) sealReadsUptoCard
end Rows
end Go.Proofs.YtgllokinadjiaaaGreatDoor
