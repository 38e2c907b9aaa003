/-
  DERIVED. GIVEN WITH THE SEED: THE CARDS: each row of YtnknmdpifjgfhaaDoorRows.lean that lists a variable, with what it lists TIED to the program's text (the seventh form; the later family's looks); each row that meets fmt, with fmt's text TOLD by the authors' own Lean function (tested against real Go, not proved from fmt's source: count such statements apart). THE CARD IS WHAT COUNTS. Prove the row's statement (the work); the ties are given (YtnknmdpifjgfhaaDoorTie.lean); close each card by the builder's one call (the guide's Derived/Test/ToyasCard.lean, 'card_holds'). Laid BY PROGRAM, IN A SANDBOX (cutbox-door.mjs). By AI agents, Wed Nov 11 2026. No macro, syntax, notation, axiom, sorry.
-/
import Derived.Test.YtnknmdpifjgfhaaDoorRows
import GoSem.ClaimSeven
namespace Go.Proofs.YtnknmdpifjgfhaaDoor
namespace Rows

/-- THE TIED CARD OF 'synodallaw2.WireEntries'. -/
def wireEntriesCard : Claim7 := { stood := { row := wireEntriesRow, standIns := [], harness := (true, "4ea00ed72c659f5937492fd51570f3232a8c5c0d9f5345f94f8b116338c8d26f"), looks := true }, kinds := [], alts := [], laidByText := true, laidKinds := [.handle, .data], laidTests := true, laidLooks := .later }
def WireEntriesCardSaid : Prop := Claim7.holds Tryd.pinned (.plain (OpenSpec.ofChange wireEntriesSpec)) wireEntriesCard

/-- THE TIED CARD OF 'synodallaw2.WireMsgs'. -/
def wireMsgsCard : Claim7 := { stood := { row := wireMsgsRow, standIns := [], harness := (true, "4ea00ed72c659f5937492fd51570f3232a8c5c0d9f5345f94f8b116338c8d26f"), looks := true }, kinds := [], alts := [], laidByText := true, laidKinds := [.handle, .data], laidTests := true, laidLooks := .later }
def WireMsgsCardSaid : Prop := Claim7.holds Tryd.pinned (.plain (OpenSpec.ofChange wireMsgsSpec)) wireMsgsCard

/-- THE TIED CARD OF 'synodallaw2.WireReads'. -/
def wireReadsCard : Claim7 := { stood := { row := wireReadsRow, standIns := [], harness := (true, "4ea00ed72c659f5937492fd51570f3232a8c5c0d9f5345f94f8b116338c8d26f"), looks := true }, kinds := [], alts := [], laidByText := true, laidKinds := [.handle, .data], laidTests := true, laidLooks := .later }
def WireReadsCardSaid : Prop := Claim7.holds Tryd.pinned (.plain (OpenSpec.ofChange wireReadsSpec)) wireReadsCard

/-- THE TIED CARD OF 'synodallaw2.WireFrames'. -/
def wireFramesCard : Claim7 := { stood := { row := wireFramesRow, standIns := [], harness := (true, "4ea00ed72c659f5937492fd51570f3232a8c5c0d9f5345f94f8b116338c8d26f"), looks := true }, kinds := [], alts := [], laidByText := true, laidKinds := [.handle, .data], laidTests := true, laidLooks := .later }
def WireFramesCardSaid : Prop := Claim7.holds Tryd.pinned (.plain (OpenSpec.ofChange wireFramesSpec)) wireFramesCard

/-- THE TIED CARD OF 'synodallaw2.WireSplits'. -/
def wireSplitsCard : Claim7 := { stood := { row := wireSplitsRow, standIns := [], harness := (true, "4ea00ed72c659f5937492fd51570f3232a8c5c0d9f5345f94f8b116338c8d26f"), looks := true }, kinds := [], alts := [], laidByText := true, laidKinds := [.handle, .data], laidTests := true, laidLooks := .later }
def WireSplitsCardSaid : Prop := Claim7.holds Tryd.pinned (.plain (OpenSpec.ofChange wireSplitsSpec)) wireSplitsCard

/-- THE TIED CARD OF 'synodallaw2.WireLong'. -/
def wireLongCard : Claim7 := { stood := { row := wireLongRow, standIns := [], harness := (true, "4ea00ed72c659f5937492fd51570f3232a8c5c0d9f5345f94f8b116338c8d26f"), looks := true }, kinds := [], alts := [], laidByText := true, laidKinds := [.handle, .data], laidTests := true, laidLooks := .later }
def WireLongCardSaid : Prop := Claim7.holds Tryd.pinned (.plain (OpenSpec.ofChange wireLongSpec)) wireLongCard

/-- THE SECOND FORM's CARD OF 'synodallaw2.WireEntries'. -/
def wireEntriesUptoCard : Claim7 := { stood := { row := wireEntriesUptoRow, standIns := [], harness := (true, "4ea00ed72c659f5937492fd51570f3232a8c5c0d9f5345f94f8b116338c8d26f"), looks := true }, kinds := [], alts := [], laidByText := true, laidKinds := [.handle, .data], laidTests := true, laidLooks := .later }
def WireEntriesUptoCardSaid : Prop := Claim7.holds Tryd.pinned (.plain (OpenSpec.upto wireEntriesSpec)) wireEntriesUptoCard

/-- THE SECOND FORM's CARD OF 'synodallaw2.WireMsgs'. -/
def wireMsgsUptoCard : Claim7 := { stood := { row := wireMsgsUptoRow, standIns := [], harness := (true, "4ea00ed72c659f5937492fd51570f3232a8c5c0d9f5345f94f8b116338c8d26f"), looks := true }, kinds := [], alts := [], laidByText := true, laidKinds := [.handle, .data], laidTests := true, laidLooks := .later }
def WireMsgsUptoCardSaid : Prop := Claim7.holds Tryd.pinned (.plain (OpenSpec.upto wireMsgsSpec)) wireMsgsUptoCard

/-- THE SECOND FORM's CARD OF 'synodallaw2.WireReads'. -/
def wireReadsUptoCard : Claim7 := { stood := { row := wireReadsUptoRow, standIns := [], harness := (true, "4ea00ed72c659f5937492fd51570f3232a8c5c0d9f5345f94f8b116338c8d26f"), looks := true }, kinds := [], alts := [], laidByText := true, laidKinds := [.handle, .data], laidTests := true, laidLooks := .later }
def WireReadsUptoCardSaid : Prop := Claim7.holds Tryd.pinned (.plain (OpenSpec.upto wireReadsSpec)) wireReadsUptoCard

/-- THE SECOND FORM's CARD OF 'synodallaw2.WireFrames'. -/
def wireFramesUptoCard : Claim7 := { stood := { row := wireFramesUptoRow, standIns := [], harness := (true, "4ea00ed72c659f5937492fd51570f3232a8c5c0d9f5345f94f8b116338c8d26f"), looks := true }, kinds := [], alts := [], laidByText := true, laidKinds := [.handle, .data], laidTests := true, laidLooks := .later }
def WireFramesUptoCardSaid : Prop := Claim7.holds Tryd.pinned (.plain (OpenSpec.upto wireFramesSpec)) wireFramesUptoCard

/-- THE SECOND FORM's CARD OF 'synodallaw2.WireSplits'. -/
def wireSplitsUptoCard : Claim7 := { stood := { row := wireSplitsUptoRow, standIns := [], harness := (true, "4ea00ed72c659f5937492fd51570f3232a8c5c0d9f5345f94f8b116338c8d26f"), looks := true }, kinds := [], alts := [], laidByText := true, laidKinds := [.handle, .data], laidTests := true, laidLooks := .later }
def WireSplitsUptoCardSaid : Prop := Claim7.holds Tryd.pinned (.plain (OpenSpec.upto wireSplitsSpec)) wireSplitsUptoCard

/-- THE SECOND FORM's CARD OF 'synodallaw2.WireLong'. -/
def wireLongUptoCard : Claim7 := { stood := { row := wireLongUptoRow, standIns := [], harness := (true, "4ea00ed72c659f5937492fd51570f3232a8c5c0d9f5345f94f8b116338c8d26f"), looks := true }, kinds := [], alts := [], laidByText := true, laidKinds := [.handle, .data], laidTests := true, laidLooks := .later }
def WireLongUptoCardSaid : Prop := Claim7.holds Tryd.pinned (.plain (OpenSpec.upto wireLongSpec)) wireLongUptoCard
end Rows
end Go.Proofs.YtnknmdpifjgfhaaDoor
