/-
  DERIVED. GIVEN WITH THE SEED: THE CARDS: each row of YtpkmbhnikilihaaGreatDoorRows.lean that lists a variable, with what it lists TIED to the program's text (the seventh form; the later family's looks); each row that meets fmt, with fmt's text TOLD by the authors' own Lean function (tested against real Go, not proved from fmt's source: count such statements apart). THE CARD IS WHAT COUNTS. Prove the row's statement (the work); the ties are given (YtpkmbhnikilihaaGreatDoorTie.lean); close each card by the builder's one call (the guide's Derived/Test/ToyasCard.lean, 'card_holds'). Laid BY PROGRAM, IN A SANDBOX (cutbox-door.mjs). By AI agents, Wed Nov 11 2026. No macro, syntax, notation, axiom, sorry.
-/
import Derived.Test.YtpkmbhnikilihaaGreatDoorRows
import GoSem.ClaimSeven
namespace Go.Proofs.YtpkmbhnikilihaaGreatDoor
namespace Rows

/-- THE TIED CARD OF 'seinelaw6.ParseReads'. -/
def parseReadsCard : Claim7 := { stood := { row := parseReadsRow, standIns := [], harness := (true, "edcd3ad4c1054ac8e96e2ac3d4f4f71766744c41a8ef8bf12a758bcdff0ff971"), looks := true }, kinds := [], alts := [], laidByText := true, laidKinds := [.data, .data, .data, .sentinel, .sentinel, .data], laidTests := true, laidLooks := .later }
def ParseReadsCardSaid : Prop := Claim7.holds Tryz.pinned (.plain (OpenSpec.ofChange parseReadsSpec)) parseReadsCard

/-- THE TIED CARD OF 'seinelaw6.ParseValues'. -/
def parseValuesCard : Claim7 := { stood := { row := parseValuesRow, standIns := [], harness := (true, "edcd3ad4c1054ac8e96e2ac3d4f4f71766744c41a8ef8bf12a758bcdff0ff971"), looks := true }, kinds := [], alts := [], laidByText := true, laidKinds := [.data, .data, .data, .sentinel, .sentinel, .data], laidTests := true, laidLooks := .later }
def ParseValuesCardSaid : Prop := Claim7.holds Tryz.pinned (.plain (OpenSpec.ofChange parseValuesSpec)) parseValuesCard

/-- THE TIED CARD OF 'seinelaw6.ParseJoins'. -/
def parseJoinsCard : Claim7 := { stood := { row := parseJoinsRow, standIns := [], harness := (true, "edcd3ad4c1054ac8e96e2ac3d4f4f71766744c41a8ef8bf12a758bcdff0ff971"), looks := true }, kinds := [], alts := [], laidByText := true, laidKinds := [.data, .data, .data, .sentinel, .sentinel, .data], laidTests := true, laidLooks := .later }
def ParseJoinsCardSaid : Prop := Claim7.holds Tryz.pinned (.plain (OpenSpec.ofChange parseJoinsSpec)) parseJoinsCard

/-- THE TIED CARD OF 'seinelaw6.ParsePlain'. -/
def parsePlainCard : Claim7 := { stood := { row := parsePlainRow, standIns := [], harness := (true, "edcd3ad4c1054ac8e96e2ac3d4f4f71766744c41a8ef8bf12a758bcdff0ff971"), looks := true }, kinds := [], alts := [], laidByText := true, laidKinds := [.data, .data, .data, .sentinel, .sentinel, .data], laidTests := true, laidLooks := .later }
def ParsePlainCardSaid : Prop := Claim7.holds Tryz.pinned (.plain (OpenSpec.ofChange parsePlainSpec)) parsePlainCard

/-- THE TIED CARD OF 'seinelaw7.PrintSays'. -/
def printSaysCard : Claim7 := { stood := { row := printSaysRow, standIns := [], harness := (true, "edcd3ad4c1054ac8e96e2ac3d4f4f71766744c41a8ef8bf12a758bcdff0ff971"), looks := true }, kinds := [], alts := [], laidByText := true, laidKinds := [.data, .data, .data, .sentinel, .sentinel, .data], laidTests := true, laidLooks := .later }
def PrintSaysCardSaid : Prop := Claim7.holds Tryz.pinned (.plain (OpenSpec.ofChange printSaysSpec)) printSaysCard

/-- THE TIED CARD OF 'seinelaw7.PrintSels'. -/
def printSelsCard : Claim7 := { stood := { row := printSelsRow, standIns := [], harness := (true, "edcd3ad4c1054ac8e96e2ac3d4f4f71766744c41a8ef8bf12a758bcdff0ff971"), looks := true }, kinds := [], alts := [], laidByText := true, laidKinds := [.data, .data, .data, .sentinel, .sentinel, .data], laidTests := true, laidLooks := .later }
def PrintSelsCardSaid : Prop := Claim7.holds Tryz.pinned (.plain (OpenSpec.ofChange printSelsSpec)) printSelsCard

/-- THE TIED CARD OF 'seinelaw7.PrintBack'. -/
def printBackCard : Claim7 := { stood := { row := printBackRow, standIns := [], harness := (true, "edcd3ad4c1054ac8e96e2ac3d4f4f71766744c41a8ef8bf12a758bcdff0ff971"), looks := true }, kinds := [], alts := [], laidByText := true, laidKinds := [.data, .data, .data, .sentinel, .sentinel, .data], laidTests := true, laidLooks := .later }
def PrintBackCardSaid : Prop := Claim7.holds Tryz.pinned (.plain (OpenSpec.ofChange printBackSpec)) printBackCard

/-- THE TIED CARD OF 'seinelaw7.PrintOnce'. -/
def printOnceCard : Claim7 := { stood := { row := printOnceRow, standIns := [], harness := (true, "edcd3ad4c1054ac8e96e2ac3d4f4f71766744c41a8ef8bf12a758bcdff0ff971"), looks := true }, kinds := [], alts := [], laidByText := true, laidKinds := [.data, .data, .data, .sentinel, .sentinel, .data], laidTests := true, laidLooks := .later }
def PrintOnceCardSaid : Prop := Claim7.holds Tryz.pinned (.plain (OpenSpec.ofChange printOnceSpec)) printOnceCard

/-- THE TIED CARD OF 'seinelaw7.PrintParts'. -/
def printPartsCard : Claim7 := { stood := { row := printPartsRow, standIns := [], harness := (true, "edcd3ad4c1054ac8e96e2ac3d4f4f71766744c41a8ef8bf12a758bcdff0ff971"), looks := true }, kinds := [], alts := [], laidByText := true, laidKinds := [.data, .data, .data, .sentinel, .sentinel, .data], laidTests := true, laidLooks := .later }
def PrintPartsCardSaid : Prop := Claim7.holds Tryz.pinned (.plain (OpenSpec.ofChange printPartsSpec)) printPartsCard

/-- THE TIED CARD OF 'seinelaw7.PrintSelsOf'. -/
def printSelsOfCard : Claim7 := { stood := { row := printSelsOfRow, standIns := [], harness := (true, "edcd3ad4c1054ac8e96e2ac3d4f4f71766744c41a8ef8bf12a758bcdff0ff971"), looks := true }, kinds := [], alts := [], laidByText := true, laidKinds := [.data, .data, .data, .sentinel, .sentinel, .data], laidTests := true, laidLooks := .later }
def PrintSelsOfCardSaid : Prop := Claim7.holds Tryz.pinned (.plain (OpenSpec.ofChange printSelsOfSpec)) printSelsOfCard

/-- THE SECOND FORM's CARD OF 'seinelaw6.ParseReads'. -/
def parseReadsUptoCard : Claim7 := { stood := { row := parseReadsUptoRow, standIns := [], harness := (true, "edcd3ad4c1054ac8e96e2ac3d4f4f71766744c41a8ef8bf12a758bcdff0ff971"), looks := true }, kinds := [], alts := [], laidByText := true, laidKinds := [.data, .data, .data, .sentinel, .sentinel, .data], laidTests := true, laidLooks := .later }
def ParseReadsUptoCardSaid : Prop := Claim7.holds Tryz.pinned (.plain (OpenSpec.upto parseReadsSpec)) parseReadsUptoCard

/-- THE SECOND FORM's CARD OF 'seinelaw6.ParseValues'. -/
def parseValuesUptoCard : Claim7 := { stood := { row := parseValuesUptoRow, standIns := [], harness := (true, "edcd3ad4c1054ac8e96e2ac3d4f4f71766744c41a8ef8bf12a758bcdff0ff971"), looks := true }, kinds := [], alts := [], laidByText := true, laidKinds := [.data, .data, .data, .sentinel, .sentinel, .data], laidTests := true, laidLooks := .later }
def ParseValuesUptoCardSaid : Prop := Claim7.holds Tryz.pinned (.plain (OpenSpec.upto parseValuesSpec)) parseValuesUptoCard

/-- THE SECOND FORM's CARD OF 'seinelaw6.ParseJoins'. -/
def parseJoinsUptoCard : Claim7 := { stood := { row := parseJoinsUptoRow, standIns := [], harness := (true, "edcd3ad4c1054ac8e96e2ac3d4f4f71766744c41a8ef8bf12a758bcdff0ff971"), looks := true }, kinds := [], alts := [], laidByText := true, laidKinds := [.data, .data, .data, .sentinel, .sentinel, .data], laidTests := true, laidLooks := .later }
def ParseJoinsUptoCardSaid : Prop := Claim7.holds Tryz.pinned (.plain (OpenSpec.upto parseJoinsSpec)) parseJoinsUptoCard

/-- THE SECOND FORM's CARD OF 'seinelaw6.ParsePlain'. -/
def parsePlainUptoCard : Claim7 := { stood := { row := parsePlainUptoRow, standIns := [], harness := (true, "edcd3ad4c1054ac8e96e2ac3d4f4f71766744c41a8ef8bf12a758bcdff0ff971"), looks := true }, kinds := [], alts := [], laidByText := true, laidKinds := [.data, .data, .data, .sentinel, .sentinel, .data], laidTests := true, laidLooks := .later }
def ParsePlainUptoCardSaid : Prop := Claim7.holds Tryz.pinned (.plain (OpenSpec.upto parsePlainSpec)) parsePlainUptoCard

/-- THE SECOND FORM's CARD OF 'seinelaw7.PrintSays'. -/
def printSaysUptoCard : Claim7 := { stood := { row := printSaysUptoRow, standIns := [], harness := (true, "edcd3ad4c1054ac8e96e2ac3d4f4f71766744c41a8ef8bf12a758bcdff0ff971"), looks := true }, kinds := [], alts := [], laidByText := true, laidKinds := [.data, .data, .data, .sentinel, .sentinel, .data], laidTests := true, laidLooks := .later }
def PrintSaysUptoCardSaid : Prop := Claim7.holds Tryz.pinned (.plain (OpenSpec.upto printSaysSpec)) printSaysUptoCard

/-- THE SECOND FORM's CARD OF 'seinelaw7.PrintSels'. -/
def printSelsUptoCard : Claim7 := { stood := { row := printSelsUptoRow, standIns := [], harness := (true, "edcd3ad4c1054ac8e96e2ac3d4f4f71766744c41a8ef8bf12a758bcdff0ff971"), looks := true }, kinds := [], alts := [], laidByText := true, laidKinds := [.data, .data, .data, .sentinel, .sentinel, .data], laidTests := true, laidLooks := .later }
def PrintSelsUptoCardSaid : Prop := Claim7.holds Tryz.pinned (.plain (OpenSpec.upto printSelsSpec)) printSelsUptoCard

/-- THE SECOND FORM's CARD OF 'seinelaw7.PrintBack'. -/
def printBackUptoCard : Claim7 := { stood := { row := printBackUptoRow, standIns := [], harness := (true, "edcd3ad4c1054ac8e96e2ac3d4f4f71766744c41a8ef8bf12a758bcdff0ff971"), looks := true }, kinds := [], alts := [], laidByText := true, laidKinds := [.data, .data, .data, .sentinel, .sentinel, .data], laidTests := true, laidLooks := .later }
def PrintBackUptoCardSaid : Prop := Claim7.holds Tryz.pinned (.plain (OpenSpec.upto printBackSpec)) printBackUptoCard

/-- THE SECOND FORM's CARD OF 'seinelaw7.PrintOnce'. -/
def printOnceUptoCard : Claim7 := { stood := { row := printOnceUptoRow, standIns := [], harness := (true, "edcd3ad4c1054ac8e96e2ac3d4f4f71766744c41a8ef8bf12a758bcdff0ff971"), looks := true }, kinds := [], alts := [], laidByText := true, laidKinds := [.data, .data, .data, .sentinel, .sentinel, .data], laidTests := true, laidLooks := .later }
def PrintOnceUptoCardSaid : Prop := Claim7.holds Tryz.pinned (.plain (OpenSpec.upto printOnceSpec)) printOnceUptoCard

/-- THE SECOND FORM's CARD OF 'seinelaw7.PrintParts'. -/
def printPartsUptoCard : Claim7 := { stood := { row := printPartsUptoRow, standIns := [], harness := (true, "edcd3ad4c1054ac8e96e2ac3d4f4f71766744c41a8ef8bf12a758bcdff0ff971"), looks := true }, kinds := [], alts := [], laidByText := true, laidKinds := [.data, .data, .data, .sentinel, .sentinel, .data], laidTests := true, laidLooks := .later }
def PrintPartsUptoCardSaid : Prop := Claim7.holds Tryz.pinned (.plain (OpenSpec.upto printPartsSpec)) printPartsUptoCard

/-- THE SECOND FORM's CARD OF 'seinelaw7.PrintSelsOf'. -/
def printSelsOfUptoCard : Claim7 := { stood := { row := printSelsOfUptoRow, standIns := [], harness := (true, "edcd3ad4c1054ac8e96e2ac3d4f4f71766744c41a8ef8bf12a758bcdff0ff971"), looks := true }, kinds := [], alts := [], laidByText := true, laidKinds := [.data, .data, .data, .sentinel, .sentinel, .data], laidTests := true, laidLooks := .later }
def PrintSelsOfUptoCardSaid : Prop := Claim7.holds Tryz.pinned (.plain (OpenSpec.upto printSelsOfSpec)) printSelsOfUptoCard
end Rows
end Go.Proofs.YtpkmbhnikilihaaGreatDoor
