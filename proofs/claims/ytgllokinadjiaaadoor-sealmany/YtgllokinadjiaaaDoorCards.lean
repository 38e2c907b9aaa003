/-
  DERIVED. GIVEN WITH THE SEED: THE CARDS: each row of YtgllokinadjiaaaDoorRows.lean that lists a variable, with what it lists TIED to the program's text (the seventh form; the later family's looks); each row that meets fmt, with fmt's text TOLD by the authors' own Lean function (tested against real Go, not proved from fmt's source: count such statements apart). THE CARD IS WHAT COUNTS. Prove the row's statement (the work); the ties are given (YtgllokinadjiaaaDoorTie.lean); close each card by the builder's one call (the guide's Derived/Test/ToyasCard.lean, 'card_holds'). Laid BY PROGRAM, IN A SANDBOX (cutbox-door.mjs). By AI agents, Wed Nov 11 2026. No macro, syntax, notation, axiom, sorry.
-/
import Derived.Test.YtgllokinadjiaaaDoorRows
import GoSem.ClaimSeven
namespace Go.Proofs.YtgllokinadjiaaaDoor
namespace Rows

/-- THE TIED CARD OF 'synodallaw17.SealMany'. -/
def sealManyCard : Claim7 := { stood := { row := sealManyRow, standIns := [], harness := (true, "36fc3bf732b04f6be794b9cc19c9dbca799b636789f0d72c479c99c384cc05c4"), looks := true }, kinds := [], alts := [], laidByText := true, laidKinds := [.handle], laidTests := true, laidLooks := .later }
def SealManyCardSaid : Prop := Claim7.holds Tryd.pinned (.plain (OpenSpec.ofChange sealManySpec)) sealManyCard

/-- THE SECOND FORM's CARD OF 'synodallaw17.SealMany'. -/
def sealManyUptoCard : Claim7 := { stood := { row := sealManyUptoRow, standIns := [], harness := (true, "36fc3bf732b04f6be794b9cc19c9dbca799b636789f0d72c479c99c384cc05c4"), looks := true }, kinds := [], alts := [], laidByText := true, laidKinds := [.handle], laidTests := true, laidLooks := .later }
def SealManyUptoCardSaid : Prop := Claim7.holds Tryd.pinned (.plain (OpenSpec.upto sealManySpec)) sealManyUptoCard
end Rows
end Go.Proofs.YtgllokinadjiaaaDoor
