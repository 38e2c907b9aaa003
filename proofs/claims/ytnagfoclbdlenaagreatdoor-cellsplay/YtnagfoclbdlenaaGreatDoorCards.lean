/-
  DERIVED. GIVEN WITH THE SEED: THE CARDS: each row of YtnagfoclbdlenaaGreatDoorRows.lean that lists a variable, with what it lists TIED to the program's text (the seventh form; the later family's looks); each row that meets fmt, with fmt's text TOLD by the authors' own Lean function (tested against real Go, not proved from fmt's source: count such statements apart). THE CARD IS WHAT COUNTS. Prove the row's statement (the work); the ties are given (YtnagfoclbdlenaaGreatDoorTie.lean); close each card by the builder's one call (the guide's Derived/Test/ToyasCard.lean, 'card_holds'). Laid BY PROGRAM, IN A SANDBOX (cutbox-door.mjs). By AI agents, Wed Nov 11 2026. No macro, syntax, notation, axiom, sorry.
-/
import Derived.Test.YtnagfoclbdlenaaGreatDoorRows
import GoSem.ClaimSeven
namespace Go.Proofs.YtnagfoclbdlenaaGreatDoor
namespace Rows

/-- THE TIED CARD OF 'synodallaw5.CellsPlay'. -/
def cellsPlayCard : Claim7 := { stood := { row := cellsPlayRow, standIns := [], harness := (true, "0611e94140aa2f6f4e28aba1a7c9946a39db002290a73acb3fe328f281399fd3"), looks := true }, kinds := [], alts := [], laidByText := true, laidKinds := [.handle, .sentinel, .data, .sentinel], laidTests := true, laidLooks := .later }
def CellsPlayCardSaid : Prop := Claim7.holds Tryz.pinned (.plain (OpenSpec.ofChange cellsPlaySpec)) cellsPlayCard

/-- THE TIED CARD OF 'synodallaw5.CellsCrash'. -/
def cellsCrashCard : Claim7 := { stood := { row := cellsCrashRow, standIns := [], harness := (true, "0611e94140aa2f6f4e28aba1a7c9946a39db002290a73acb3fe328f281399fd3"), looks := true }, kinds := [], alts := [], laidByText := true, laidKinds := [.handle, .sentinel, .data, .sentinel], laidTests := true, laidLooks := .later }
def CellsCrashCardSaid : Prop := Claim7.holds Tryz.pinned (.plain (OpenSpec.ofChange cellsCrashSpec)) cellsCrashCard

/-- THE TIED CARD OF 'synodallaw5.CellsMany'. -/
def cellsManyCard : Claim7 := { stood := { row := cellsManyRow, standIns := [], harness := (true, "0611e94140aa2f6f4e28aba1a7c9946a39db002290a73acb3fe328f281399fd3"), looks := true }, kinds := [], alts := [], laidByText := true, laidKinds := [.handle, .sentinel, .data, .sentinel], laidTests := true, laidLooks := .later }
def CellsManyCardSaid : Prop := Claim7.holds Tryz.pinned (.plain (OpenSpec.ofChange cellsManySpec)) cellsManyCard

/-- THE TIED CARD OF 'synodallaw5.CellsRefuse'. -/
def cellsRefuseCard : Claim7 := { stood := { row := cellsRefuseRow, standIns := [], harness := (true, "0611e94140aa2f6f4e28aba1a7c9946a39db002290a73acb3fe328f281399fd3"), looks := true }, kinds := [], alts := [], laidByText := true, laidKinds := [.handle, .sentinel, .data, .sentinel], laidTests := true, laidLooks := .later }
def CellsRefuseCardSaid : Prop := Claim7.holds Tryz.pinned (.plain (OpenSpec.ofChange cellsRefuseSpec)) cellsRefuseCard

/-- THE TIED CARD OF 'synodallaw5.CellsOwn'. -/
def cellsOwnCard : Claim7 := { stood := { row := cellsOwnRow, standIns := [], harness := (true, "0611e94140aa2f6f4e28aba1a7c9946a39db002290a73acb3fe328f281399fd3"), looks := true }, kinds := [], alts := [], laidByText := true, laidKinds := [.handle, .sentinel, .data, .sentinel], laidTests := true, laidLooks := .later }
def CellsOwnCardSaid : Prop := Claim7.holds Tryz.pinned (.plain (OpenSpec.ofChange cellsOwnSpec)) cellsOwnCard

/-- THE TIED CARD OF 'synodallaw5.CellsEnds'. -/
def cellsEndsCard : Claim7 := { stood := { row := cellsEndsRow, standIns := [], harness := (true, "0611e94140aa2f6f4e28aba1a7c9946a39db002290a73acb3fe328f281399fd3"), looks := true }, kinds := [], alts := [], laidByText := true, laidKinds := [.handle, .sentinel, .data, .sentinel], laidTests := true, laidLooks := .later }
def CellsEndsCardSaid : Prop := Claim7.holds Tryz.pinned (.plain (OpenSpec.ofChange cellsEndsSpec)) cellsEndsCard

/-- THE SECOND FORM's CARD OF 'synodallaw5.CellsPlay'. -/
def cellsPlayUptoCard : Claim7 := { stood := { row := cellsPlayUptoRow, standIns := [], harness := (true, "0611e94140aa2f6f4e28aba1a7c9946a39db002290a73acb3fe328f281399fd3"), looks := true }, kinds := [], alts := [], laidByText := true, laidKinds := [.handle, .sentinel, .data, .sentinel], laidTests := true, laidLooks := .later }
def CellsPlayUptoCardSaid : Prop := Claim7.holds Tryz.pinned (.plain (OpenSpec.upto cellsPlaySpec)) cellsPlayUptoCard

/-- THE SECOND FORM's CARD OF 'synodallaw5.CellsCrash'. -/
def cellsCrashUptoCard : Claim7 := { stood := { row := cellsCrashUptoRow, standIns := [], harness := (true, "0611e94140aa2f6f4e28aba1a7c9946a39db002290a73acb3fe328f281399fd3"), looks := true }, kinds := [], alts := [], laidByText := true, laidKinds := [.handle, .sentinel, .data, .sentinel], laidTests := true, laidLooks := .later }
def CellsCrashUptoCardSaid : Prop := Claim7.holds Tryz.pinned (.plain (OpenSpec.upto cellsCrashSpec)) cellsCrashUptoCard

/-- THE SECOND FORM's CARD OF 'synodallaw5.CellsMany'. -/
def cellsManyUptoCard : Claim7 := { stood := { row := cellsManyUptoRow, standIns := [], harness := (true, "0611e94140aa2f6f4e28aba1a7c9946a39db002290a73acb3fe328f281399fd3"), looks := true }, kinds := [], alts := [], laidByText := true, laidKinds := [.handle, .sentinel, .data, .sentinel], laidTests := true, laidLooks := .later }
def CellsManyUptoCardSaid : Prop := Claim7.holds Tryz.pinned (.plain (OpenSpec.upto cellsManySpec)) cellsManyUptoCard

/-- THE SECOND FORM's CARD OF 'synodallaw5.CellsRefuse'. -/
def cellsRefuseUptoCard : Claim7 := { stood := { row := cellsRefuseUptoRow, standIns := [], harness := (true, "0611e94140aa2f6f4e28aba1a7c9946a39db002290a73acb3fe328f281399fd3"), looks := true }, kinds := [], alts := [], laidByText := true, laidKinds := [.handle, .sentinel, .data, .sentinel], laidTests := true, laidLooks := .later }
def CellsRefuseUptoCardSaid : Prop := Claim7.holds Tryz.pinned (.plain (OpenSpec.upto cellsRefuseSpec)) cellsRefuseUptoCard

/-- THE SECOND FORM's CARD OF 'synodallaw5.CellsOwn'. -/
def cellsOwnUptoCard : Claim7 := { stood := { row := cellsOwnUptoRow, standIns := [], harness := (true, "0611e94140aa2f6f4e28aba1a7c9946a39db002290a73acb3fe328f281399fd3"), looks := true }, kinds := [], alts := [], laidByText := true, laidKinds := [.handle, .sentinel, .data, .sentinel], laidTests := true, laidLooks := .later }
def CellsOwnUptoCardSaid : Prop := Claim7.holds Tryz.pinned (.plain (OpenSpec.upto cellsOwnSpec)) cellsOwnUptoCard

/-- THE SECOND FORM's CARD OF 'synodallaw5.CellsEnds'. -/
def cellsEndsUptoCard : Claim7 := { stood := { row := cellsEndsUptoRow, standIns := [], harness := (true, "0611e94140aa2f6f4e28aba1a7c9946a39db002290a73acb3fe328f281399fd3"), looks := true }, kinds := [], alts := [], laidByText := true, laidKinds := [.handle, .sentinel, .data, .sentinel], laidTests := true, laidLooks := .later }
def CellsEndsUptoCardSaid : Prop := Claim7.holds Tryz.pinned (.plain (OpenSpec.upto cellsEndsSpec)) cellsEndsUptoCard
end Rows
end Go.Proofs.YtnagfoclbdlenaaGreatDoor
