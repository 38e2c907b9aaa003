/-
  DERIVED. GIVEN WITH THE SEED: THE CARDS: each row of YtjplhiflemmkfaaGreatDoorRows.lean that lists a variable, with what it lists TIED to the program's text (the seventh form; the later family's looks); each row that meets fmt, with fmt's text TOLD by the authors' own Lean function (tested against real Go, not proved from fmt's source: count such statements apart). THE CARD IS WHAT COUNTS. Prove the row's statement (the work); the ties are given (YtjplhiflemmkfaaGreatDoorTie.lean); close each card by the builder's one call (the guide's Derived/Test/ToyasCard.lean, 'card_holds'). Laid BY PROGRAM, IN A SANDBOX (cutbox-door.mjs). By AI agents, Wed Nov 11 2026. No macro, syntax, notation, axiom, sorry.
-/
import Derived.Test.YtjplhiflemmkfaaGreatDoorRows
import GoSem.ClaimSeven
namespace Go.Proofs.YtjplhiflemmkfaaGreatDoor
namespace Rows

/-- THE TIED CARD OF 'synodallaw16.EngineSame'. -/
def engineSameCard : Claim7 := { stood := { row := engineSameRow, standIns := [], harness := (true, "e7476a88bdaf309d3363dc014df1886621e0ad9090925d344741ebf4b93cdbf0"), looks := true }, kinds := [], alts := [], laidByText := true, laidKinds := [.handle, .data], laidTests := true, laidLooks := .later }
def EngineSameCardSaid : Prop := Claim7.holds Tryz.pinned (.plain (OpenSpec.ofChange engineSameSpec)) engineSameCard

/-- THE TIED CARD OF 'synodallaw16.EngineKinds'. -/
def engineKindsCard : Claim7 := { stood := { row := engineKindsRow, standIns := [], harness := (true, "e7476a88bdaf309d3363dc014df1886621e0ad9090925d344741ebf4b93cdbf0"), looks := true }, kinds := [], alts := [], laidByText := true, laidKinds := [.handle, .data], laidTests := true, laidLooks := .later }
def EngineKindsCardSaid : Prop := Claim7.holds Tryz.pinned (.plain (OpenSpec.ofChange engineKindsSpec)) engineKindsCard

/-- THE SECOND FORM's CARD OF 'synodallaw16.EngineSame'. -/
def engineSameUptoCard : Claim7 := { stood := { row := engineSameUptoRow, standIns := [], harness := (true, "e7476a88bdaf309d3363dc014df1886621e0ad9090925d344741ebf4b93cdbf0"), looks := true }, kinds := [], alts := [], laidByText := true, laidKinds := [.handle, .data], laidTests := true, laidLooks := .later }
def EngineSameUptoCardSaid : Prop := Claim7.holds Tryz.pinned (.plain (OpenSpec.upto engineSameSpec)) engineSameUptoCard

/-- THE SECOND FORM's CARD OF 'synodallaw16.EngineKinds'. -/
def engineKindsUptoCard : Claim7 := { stood := { row := engineKindsUptoRow, standIns := [], harness := (true, "e7476a88bdaf309d3363dc014df1886621e0ad9090925d344741ebf4b93cdbf0"), looks := true }, kinds := [], alts := [], laidByText := true, laidKinds := [.handle, .data], laidTests := true, laidLooks := .later }
def EngineKindsUptoCardSaid : Prop := Claim7.holds Tryz.pinned (.plain (OpenSpec.upto engineKindsSpec)) engineKindsUptoCard
end Rows
end Go.Proofs.YtjplhiflemmkfaaGreatDoor
