/-
  DERIVED. GIVEN WITH THE SEED: THE CARDS: each row of YtojmnlbdhpledaaDoorRows.lean that lists a variable, with what it lists TIED to the program's text (the seventh form; the later family's looks); each row that meets fmt, with fmt's text TOLD by the authors' own Lean function (tested against real Go, not proved from fmt's source: count such statements apart). THE CARD IS WHAT COUNTS. Prove the row's statement (the work); the ties are given (YtojmnlbdhpledaaDoorTie.lean); close each card by the builder's one call (the guide's Derived/Test/ToyasCard.lean, 'card_holds'). Laid BY PROGRAM, IN A SANDBOX (cutbox-door.mjs). By AI agents, Wed Nov 11 2026. No macro, syntax, notation, axiom, sorry.
-/
import Derived.Test.YtojmnlbdhpledaaDoorRows
import GoSem.ClaimSeven
namespace Go.Proofs.YtojmnlbdhpledaaDoor
namespace Rows

/-- THE TIED CARD OF 'synodallaw2.WireEntries'. -/
def wireEntriesCard : Claim7 := { stood := { row := wireEntriesRow, standIns := [], harness := (true, "7c610915d846f28c45e63d916ab6779bf274388fc706f05db11af3bd46f7c4e3"), looks := true }, kinds := [], alts := [], laidByText := true, laidKinds := [.handle, .data], laidTests := true, laidLooks := .later }
def WireEntriesCardSaid : Prop := Claim7.holds Tryd.pinned (.plain (OpenSpec.ofChange wireEntriesSpec)) wireEntriesCard

/-- THE TIED CARD OF 'synodallaw2.WireMsgs'. -/
def wireMsgsCard : Claim7 := { stood := { row := wireMsgsRow, standIns := [], harness := (true, "7c610915d846f28c45e63d916ab6779bf274388fc706f05db11af3bd46f7c4e3"), looks := true }, kinds := [], alts := [], laidByText := true, laidKinds := [.handle, .data], laidTests := true, laidLooks := .later }
def WireMsgsCardSaid : Prop := Claim7.holds Tryd.pinned (.plain (OpenSpec.ofChange wireMsgsSpec)) wireMsgsCard

/-- THE TIED CARD OF 'synodallaw2.WireReads'. -/
def wireReadsCard : Claim7 := { stood := { row := wireReadsRow, standIns := [], harness := (true, "7c610915d846f28c45e63d916ab6779bf274388fc706f05db11af3bd46f7c4e3"), looks := true }, kinds := [], alts := [], laidByText := true, laidKinds := [.handle, .data], laidTests := true, laidLooks := .later }
def WireReadsCardSaid : Prop := Claim7.holds Tryd.pinned (.plain (OpenSpec.ofChange wireReadsSpec)) wireReadsCard

/-- THE TIED CARD OF 'synodallaw2.WireCuts'. -/
def wireCutsCard : Claim7 := { stood := { row := wireCutsRow, standIns := [], harness := (true, "7c610915d846f28c45e63d916ab6779bf274388fc706f05db11af3bd46f7c4e3"), looks := true }, kinds := [], alts := [], laidByText := true, laidKinds := [.handle, .data], laidTests := true, laidLooks := .later }
def WireCutsCardSaid : Prop := Claim7.holds Tryd.pinned (.plain (OpenSpec.ofChange wireCutsSpec)) wireCutsCard

/-- THE SECOND FORM's CARD OF 'synodallaw2.WireEntries'. -/
def wireEntriesUptoCard : Claim7 := { stood := { row := wireEntriesUptoRow, standIns := [], harness := (true, "7c610915d846f28c45e63d916ab6779bf274388fc706f05db11af3bd46f7c4e3"), looks := true }, kinds := [], alts := [], laidByText := true, laidKinds := [.handle, .data], laidTests := true, laidLooks := .later }
def WireEntriesUptoCardSaid : Prop := Claim7.holds Tryd.pinned (.plain (OpenSpec.upto wireEntriesSpec)) wireEntriesUptoCard

/-- THE SECOND FORM's CARD OF 'synodallaw2.WireMsgs'. -/
def wireMsgsUptoCard : Claim7 := { stood := { row := wireMsgsUptoRow, standIns := [], harness := (true, "7c610915d846f28c45e63d916ab6779bf274388fc706f05db11af3bd46f7c4e3"), looks := true }, kinds := [], alts := [], laidByText := true, laidKinds := [.handle, .data], laidTests := true, laidLooks := .later }
def WireMsgsUptoCardSaid : Prop := Claim7.holds Tryd.pinned (.plain (OpenSpec.upto wireMsgsSpec)) wireMsgsUptoCard

/-- THE SECOND FORM's CARD OF 'synodallaw2.WireReads'. -/
def wireReadsUptoCard : Claim7 := { stood := { row := wireReadsUptoRow, standIns := [], harness := (true, "7c610915d846f28c45e63d916ab6779bf274388fc706f05db11af3bd46f7c4e3"), looks := true }, kinds := [], alts := [], laidByText := true, laidKinds := [.handle, .data], laidTests := true, laidLooks := .later }
def WireReadsUptoCardSaid : Prop := Claim7.holds Tryd.pinned (.plain (OpenSpec.upto wireReadsSpec)) wireReadsUptoCard

/-- THE SECOND FORM's CARD OF 'synodallaw2.WireCuts'. -/
def wireCutsUptoCard : Claim7 := { stood := { row := wireCutsUptoRow, standIns := [], harness := (true, "7c610915d846f28c45e63d916ab6779bf274388fc706f05db11af3bd46f7c4e3"), looks := true }, kinds := [], alts := [], laidByText := true, laidKinds := [.handle, .data], laidTests := true, laidLooks := .later }
def WireCutsUptoCardSaid : Prop := Claim7.holds Tryd.pinned (.plain (OpenSpec.upto wireCutsSpec)) wireCutsUptoCard
end Rows
end Go.Proofs.YtojmnlbdhpledaaDoor
