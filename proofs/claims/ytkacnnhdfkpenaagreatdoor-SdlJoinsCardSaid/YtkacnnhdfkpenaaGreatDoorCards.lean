/-
  DERIVED. GIVEN WITH THE SEED: THE CARDS: each row of YtkacnnhdfkpenaaGreatDoorRows.lean that lists a variable, with what it lists TIED to the program's text (the seventh form; the later family's looks); each row that meets fmt, with fmt's text TOLD by the authors' own Lean function (tested against real Go, not proved from fmt's source: count such statements apart). THE CARD IS WHAT COUNTS. Prove the row's statement (the work); the ties are given (YtkacnnhdfkpenaaGreatDoorTie.lean); close each card by the builder's one call (the guide's Derived/Test/ToyasCard.lean, 'card_holds'). Laid BY PROGRAM, IN A SANDBOX (cutbox-door.mjs). By AI agents, Wed Nov 11 2026. No macro, syntax, notation, axiom, sorry.
-/
import Derived.Test.YtkacnnhdfkpenaaGreatDoorRows
import GoSem.ClaimSeven
namespace Go.Proofs.YtkacnnhdfkpenaaGreatDoor
namespace Rows

/-- THE TIED CARD OF 'seinelaw7.PrintSays'. -/
def printSaysCard : Claim7 := { stood := { row := printSaysRow, standIns := [], harness := (true, "da98a2a1c924613f6df48a6403bb1144035dd9f6fcfa93e6d6dc756db7bcb619"), looks := true }, kinds := [], alts := [], laidByText := true, laidKinds := [.data, .data, .data, .sentinel, .sentinel, .data], laidTests := true, laidLooks := .later }
def PrintSaysCardSaid : Prop := Claim7.holds Tryz.pinned (.plain (OpenSpec.ofChange printSaysSpec)) printSaysCard

/-- THE TIED CARD OF 'seinelaw7.PrintSels'. -/
def printSelsCard : Claim7 := { stood := { row := printSelsRow, standIns := [], harness := (true, "da98a2a1c924613f6df48a6403bb1144035dd9f6fcfa93e6d6dc756db7bcb619"), looks := true }, kinds := [], alts := [], laidByText := true, laidKinds := [.data, .data, .data, .sentinel, .sentinel, .data], laidTests := true, laidLooks := .later }
def PrintSelsCardSaid : Prop := Claim7.holds Tryz.pinned (.plain (OpenSpec.ofChange printSelsSpec)) printSelsCard

/-- THE TIED CARD OF 'seinelaw7.PrintBack'. -/
def printBackCard : Claim7 := { stood := { row := printBackRow, standIns := [], harness := (true, "da98a2a1c924613f6df48a6403bb1144035dd9f6fcfa93e6d6dc756db7bcb619"), looks := true }, kinds := [], alts := [], laidByText := true, laidKinds := [.data, .data, .data, .sentinel, .sentinel, .data], laidTests := true, laidLooks := .later }
def PrintBackCardSaid : Prop := Claim7.holds Tryz.pinned (.plain (OpenSpec.ofChange printBackSpec)) printBackCard

/-- THE TIED CARD OF 'seinelaw7.PrintOnce'. -/
def printOnceCard : Claim7 := { stood := { row := printOnceRow, standIns := [], harness := (true, "da98a2a1c924613f6df48a6403bb1144035dd9f6fcfa93e6d6dc756db7bcb619"), looks := true }, kinds := [], alts := [], laidByText := true, laidKinds := [.data, .data, .data, .sentinel, .sentinel, .data], laidTests := true, laidLooks := .later }
def PrintOnceCardSaid : Prop := Claim7.holds Tryz.pinned (.plain (OpenSpec.ofChange printOnceSpec)) printOnceCard

/-- THE TIED CARD OF 'seinelaw7.PrintParts'. -/
def printPartsCard : Claim7 := { stood := { row := printPartsRow, standIns := [], harness := (true, "da98a2a1c924613f6df48a6403bb1144035dd9f6fcfa93e6d6dc756db7bcb619"), looks := true }, kinds := [], alts := [], laidByText := true, laidKinds := [.data, .data, .data, .sentinel, .sentinel, .data], laidTests := true, laidLooks := .later }
def PrintPartsCardSaid : Prop := Claim7.holds Tryz.pinned (.plain (OpenSpec.ofChange printPartsSpec)) printPartsCard

/-- THE TIED CARD OF 'seinelaw7.PrintSelsOf'. -/
def printSelsOfCard : Claim7 := { stood := { row := printSelsOfRow, standIns := [], harness := (true, "da98a2a1c924613f6df48a6403bb1144035dd9f6fcfa93e6d6dc756db7bcb619"), looks := true }, kinds := [], alts := [], laidByText := true, laidKinds := [.data, .data, .data, .sentinel, .sentinel, .data], laidTests := true, laidLooks := .later }
def PrintSelsOfCardSaid : Prop := Claim7.holds Tryz.pinned (.plain (OpenSpec.ofChange printSelsOfSpec)) printSelsOfCard

/-- THE TIED CARD OF 'seinelaw8.SdlReads'. -/
def sdlReadsCard : Claim7 := { stood := { row := sdlReadsRow, standIns := [], harness := (true, "da98a2a1c924613f6df48a6403bb1144035dd9f6fcfa93e6d6dc756db7bcb619"), looks := true }, kinds := [], alts := [], laidByText := true, laidKinds := [.data, .data, .data, .sentinel, .sentinel, .data], laidTests := true, laidLooks := .later }
def SdlReadsCardSaid : Prop := Claim7.holds Tryz.pinned (.plain (OpenSpec.ofChange sdlReadsSpec)) sdlReadsCard

/-- THE TIED CARD OF 'seinelaw8.SdlPrints'. -/
def sdlPrintsCard : Claim7 := { stood := { row := sdlPrintsRow, standIns := [], harness := (true, "da98a2a1c924613f6df48a6403bb1144035dd9f6fcfa93e6d6dc756db7bcb619"), looks := true }, kinds := [], alts := [], laidByText := true, laidKinds := [.data, .data, .data, .sentinel, .sentinel, .data], laidTests := true, laidLooks := .later }
def SdlPrintsCardSaid : Prop := Claim7.holds Tryz.pinned (.plain (OpenSpec.ofChange sdlPrintsSpec)) sdlPrintsCard

/-- THE TIED CARD OF 'seinelaw8.SdlBack'. -/
def sdlBackCard : Claim7 := { stood := { row := sdlBackRow, standIns := [], harness := (true, "da98a2a1c924613f6df48a6403bb1144035dd9f6fcfa93e6d6dc756db7bcb619"), looks := true }, kinds := [], alts := [], laidByText := true, laidKinds := [.data, .data, .data, .sentinel, .sentinel, .data], laidTests := true, laidLooks := .later }
def SdlBackCardSaid : Prop := Claim7.holds Tryz.pinned (.plain (OpenSpec.ofChange sdlBackSpec)) sdlBackCard

/-- THE TIED CARD OF 'seinelaw8.SdlOnce'. -/
def sdlOnceCard : Claim7 := { stood := { row := sdlOnceRow, standIns := [], harness := (true, "da98a2a1c924613f6df48a6403bb1144035dd9f6fcfa93e6d6dc756db7bcb619"), looks := true }, kinds := [], alts := [], laidByText := true, laidKinds := [.data, .data, .data, .sentinel, .sentinel, .data], laidTests := true, laidLooks := .later }
def SdlOnceCardSaid : Prop := Claim7.holds Tryz.pinned (.plain (OpenSpec.ofChange sdlOnceSpec)) sdlOnceCard

/-- THE TIED CARD OF 'seinelaw8.SdlRoots'. -/
def sdlRootsCard : Claim7 := { stood := { row := sdlRootsRow, standIns := [], harness := (true, "da98a2a1c924613f6df48a6403bb1144035dd9f6fcfa93e6d6dc756db7bcb619"), looks := true }, kinds := [], alts := [], laidByText := true, laidKinds := [.data, .data, .data, .sentinel, .sentinel, .data], laidTests := true, laidLooks := .later }
def SdlRootsCardSaid : Prop := Claim7.holds Tryz.pinned (.plain (OpenSpec.ofChange sdlRootsSpec)) sdlRootsCard

/-- THE TIED CARD OF 'seinelaw8.SdlJoins'. -/
def sdlJoinsCard : Claim7 := { stood := { row := sdlJoinsRow, standIns := [], harness := (true, "da98a2a1c924613f6df48a6403bb1144035dd9f6fcfa93e6d6dc756db7bcb619"), looks := true }, kinds := [], alts := [], laidByText := true, laidKinds := [.data, .data, .data, .sentinel, .sentinel, .data], laidTests := true, laidLooks := .later }
def SdlJoinsCardSaid : Prop := Claim7.holds Tryz.pinned (.plain (OpenSpec.ofChange sdlJoinsSpec)) sdlJoinsCard

/-- THE SECOND FORM's CARD OF 'seinelaw7.PrintSays'. -/
def printSaysUptoCard : Claim7 := { stood := { row := printSaysUptoRow, standIns := [], harness := (true, "da98a2a1c924613f6df48a6403bb1144035dd9f6fcfa93e6d6dc756db7bcb619"), looks := true }, kinds := [], alts := [], laidByText := true, laidKinds := [.data, .data, .data, .sentinel, .sentinel, .data], laidTests := true, laidLooks := .later }
def PrintSaysUptoCardSaid : Prop := Claim7.holds Tryz.pinned (.plain (OpenSpec.upto printSaysSpec)) printSaysUptoCard

/-- THE SECOND FORM's CARD OF 'seinelaw7.PrintSels'. -/
def printSelsUptoCard : Claim7 := { stood := { row := printSelsUptoRow, standIns := [], harness := (true, "da98a2a1c924613f6df48a6403bb1144035dd9f6fcfa93e6d6dc756db7bcb619"), looks := true }, kinds := [], alts := [], laidByText := true, laidKinds := [.data, .data, .data, .sentinel, .sentinel, .data], laidTests := true, laidLooks := .later }
def PrintSelsUptoCardSaid : Prop := Claim7.holds Tryz.pinned (.plain (OpenSpec.upto printSelsSpec)) printSelsUptoCard

/-- THE SECOND FORM's CARD OF 'seinelaw7.PrintBack'. -/
def printBackUptoCard : Claim7 := { stood := { row := printBackUptoRow, standIns := [], harness := (true, "da98a2a1c924613f6df48a6403bb1144035dd9f6fcfa93e6d6dc756db7bcb619"), looks := true }, kinds := [], alts := [], laidByText := true, laidKinds := [.data, .data, .data, .sentinel, .sentinel, .data], laidTests := true, laidLooks := .later }
def PrintBackUptoCardSaid : Prop := Claim7.holds Tryz.pinned (.plain (OpenSpec.upto printBackSpec)) printBackUptoCard

/-- THE SECOND FORM's CARD OF 'seinelaw7.PrintOnce'. -/
def printOnceUptoCard : Claim7 := { stood := { row := printOnceUptoRow, standIns := [], harness := (true, "da98a2a1c924613f6df48a6403bb1144035dd9f6fcfa93e6d6dc756db7bcb619"), looks := true }, kinds := [], alts := [], laidByText := true, laidKinds := [.data, .data, .data, .sentinel, .sentinel, .data], laidTests := true, laidLooks := .later }
def PrintOnceUptoCardSaid : Prop := Claim7.holds Tryz.pinned (.plain (OpenSpec.upto printOnceSpec)) printOnceUptoCard

/-- THE SECOND FORM's CARD OF 'seinelaw7.PrintParts'. -/
def printPartsUptoCard : Claim7 := { stood := { row := printPartsUptoRow, standIns := [], harness := (true, "da98a2a1c924613f6df48a6403bb1144035dd9f6fcfa93e6d6dc756db7bcb619"), looks := true }, kinds := [], alts := [], laidByText := true, laidKinds := [.data, .data, .data, .sentinel, .sentinel, .data], laidTests := true, laidLooks := .later }
def PrintPartsUptoCardSaid : Prop := Claim7.holds Tryz.pinned (.plain (OpenSpec.upto printPartsSpec)) printPartsUptoCard

/-- THE SECOND FORM's CARD OF 'seinelaw7.PrintSelsOf'. -/
def printSelsOfUptoCard : Claim7 := { stood := { row := printSelsOfUptoRow, standIns := [], harness := (true, "da98a2a1c924613f6df48a6403bb1144035dd9f6fcfa93e6d6dc756db7bcb619"), looks := true }, kinds := [], alts := [], laidByText := true, laidKinds := [.data, .data, .data, .sentinel, .sentinel, .data], laidTests := true, laidLooks := .later }
def PrintSelsOfUptoCardSaid : Prop := Claim7.holds Tryz.pinned (.plain (OpenSpec.upto printSelsOfSpec)) printSelsOfUptoCard

/-- THE SECOND FORM's CARD OF 'seinelaw8.SdlReads'. -/
def sdlReadsUptoCard : Claim7 := { stood := { row := sdlReadsUptoRow, standIns := [], harness := (true, "da98a2a1c924613f6df48a6403bb1144035dd9f6fcfa93e6d6dc756db7bcb619"), looks := true }, kinds := [], alts := [], laidByText := true, laidKinds := [.data, .data, .data, .sentinel, .sentinel, .data], laidTests := true, laidLooks := .later }
def SdlReadsUptoCardSaid : Prop := Claim7.holds Tryz.pinned (.plain (OpenSpec.upto sdlReadsSpec)) sdlReadsUptoCard

/-- THE SECOND FORM's CARD OF 'seinelaw8.SdlPrints'. -/
def sdlPrintsUptoCard : Claim7 := { stood := { row := sdlPrintsUptoRow, standIns := [], harness := (true, "da98a2a1c924613f6df48a6403bb1144035dd9f6fcfa93e6d6dc756db7bcb619"), looks := true }, kinds := [], alts := [], laidByText := true, laidKinds := [.data, .data, .data, .sentinel, .sentinel, .data], laidTests := true, laidLooks := .later }
def SdlPrintsUptoCardSaid : Prop := Claim7.holds Tryz.pinned (.plain (OpenSpec.upto sdlPrintsSpec)) sdlPrintsUptoCard

/-- THE SECOND FORM's CARD OF 'seinelaw8.SdlBack'. -/
def sdlBackUptoCard : Claim7 := { stood := { row := sdlBackUptoRow, standIns := [], harness := (true, "da98a2a1c924613f6df48a6403bb1144035dd9f6fcfa93e6d6dc756db7bcb619"), looks := true }, kinds := [], alts := [], laidByText := true, laidKinds := [.data, .data, .data, .sentinel, .sentinel, .data], laidTests := true, laidLooks := .later }
def SdlBackUptoCardSaid : Prop := Claim7.holds Tryz.pinned (.plain (OpenSpec.upto sdlBackSpec)) sdlBackUptoCard

/-- THE SECOND FORM's CARD OF 'seinelaw8.SdlOnce'. -/
def sdlOnceUptoCard : Claim7 := { stood := { row := sdlOnceUptoRow, standIns := [], harness := (true, "da98a2a1c924613f6df48a6403bb1144035dd9f6fcfa93e6d6dc756db7bcb619"), looks := true }, kinds := [], alts := [], laidByText := true, laidKinds := [.data, .data, .data, .sentinel, .sentinel, .data], laidTests := true, laidLooks := .later }
def SdlOnceUptoCardSaid : Prop := Claim7.holds Tryz.pinned (.plain (OpenSpec.upto sdlOnceSpec)) sdlOnceUptoCard

/-- THE SECOND FORM's CARD OF 'seinelaw8.SdlRoots'. -/
def sdlRootsUptoCard : Claim7 := { stood := { row := sdlRootsUptoRow, standIns := [], harness := (true, "da98a2a1c924613f6df48a6403bb1144035dd9f6fcfa93e6d6dc756db7bcb619"), looks := true }, kinds := [], alts := [], laidByText := true, laidKinds := [.data, .data, .data, .sentinel, .sentinel, .data], laidTests := true, laidLooks := .later }
def SdlRootsUptoCardSaid : Prop := Claim7.holds Tryz.pinned (.plain (OpenSpec.upto sdlRootsSpec)) sdlRootsUptoCard

/-- THE SECOND FORM's CARD OF 'seinelaw8.SdlJoins'. -/
def sdlJoinsUptoCard : Claim7 := { stood := { row := sdlJoinsUptoRow, standIns := [], harness := (true, "da98a2a1c924613f6df48a6403bb1144035dd9f6fcfa93e6d6dc756db7bcb619"), looks := true }, kinds := [], alts := [], laidByText := true, laidKinds := [.data, .data, .data, .sentinel, .sentinel, .data], laidTests := true, laidLooks := .later }
def SdlJoinsUptoCardSaid : Prop := Claim7.holds Tryz.pinned (.plain (OpenSpec.upto sdlJoinsSpec)) sdlJoinsUptoCard
end Rows
end Go.Proofs.YtkacnnhdfkpenaaGreatDoor
