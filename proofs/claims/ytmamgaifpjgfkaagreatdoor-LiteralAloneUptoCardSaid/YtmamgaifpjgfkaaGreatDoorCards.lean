/-
  DERIVED. GIVEN WITH THE SEED: THE CARDS: each row of YtmamgaifpjgfkaaGreatDoorRows.lean that lists a variable, with what it lists TIED to the program's text (the seventh form; the later family's looks); each row that meets fmt, with fmt's text TOLD by the authors' own Lean function (tested against real Go, not proved from fmt's source: count such statements apart). THE CARD IS WHAT COUNTS. Prove the row's statement (the work); the ties are given (YtmamgaifpjgfkaaGreatDoorTie.lean); close each card by the builder's one call (the guide's Derived/Test/ToyasCard.lean, 'card_holds'). Laid BY PROGRAM, IN A SANDBOX (cutbox-door.mjs). By AI agents, Wed Nov 11 2026. No macro, syntax, notation, axiom, sorry.
-/
import Derived.Test.YtmamgaifpjgfkaaGreatDoorRows
import GoSem.ClaimSeven
namespace Go.Proofs.YtmamgaifpjgfkaaGreatDoor
namespace Rows

/-- THE TIED CARD OF 'seinelaw10.LiteralSpots'. -/
def literalSpotsCard : Claim7 := { stood := { row := literalSpotsRow, standIns := [], harness := (true, "ff35a09b6c16436f9ecfa8f9bddf14711d54e2a0b81d8ae54dc1cab12295dc6d"), looks := true }, kinds := [], alts := [], laidByText := true, laidKinds := [.data, .data, .data, .sentinel, .sentinel, .data], laidTests := true, laidLooks := .later }
def LiteralSpotsCardSaid : Prop := Claim7.holds Tryz.pinned (.plain (OpenSpec.ofChange literalSpotsSpec)) literalSpotsCard

/-- THE TIED CARD OF 'seinelaw10.LiteralNames'. -/
def literalNamesCard : Claim7 := { stood := { row := literalNamesRow, standIns := [], harness := (true, "ff35a09b6c16436f9ecfa8f9bddf14711d54e2a0b81d8ae54dc1cab12295dc6d"), looks := true }, kinds := [], alts := [], laidByText := true, laidKinds := [.data, .data, .data, .sentinel, .sentinel, .data], laidTests := true, laidLooks := .later }
def LiteralNamesCardSaid : Prop := Claim7.holds Tryz.pinned (.plain (OpenSpec.ofChange literalNamesSpec)) literalNamesCard

/-- THE TIED CARD OF 'seinelaw10.LiteralBare'. -/
def literalBareCard : Claim7 := { stood := { row := literalBareRow, standIns := [], harness := (true, "ff35a09b6c16436f9ecfa8f9bddf14711d54e2a0b81d8ae54dc1cab12295dc6d"), looks := true }, kinds := [], alts := [], laidByText := true, laidKinds := [.data, .data, .data, .sentinel, .sentinel, .data], laidTests := true, laidLooks := .later }
def LiteralBareCardSaid : Prop := Claim7.holds Tryz.pinned (.plain (OpenSpec.ofChange literalBareSpec)) literalBareCard

/-- THE TIED CARD OF 'seinelaw10.LiteralAlone'. -/
def literalAloneCard : Claim7 := { stood := { row := literalAloneRow, standIns := [], harness := (true, "ff35a09b6c16436f9ecfa8f9bddf14711d54e2a0b81d8ae54dc1cab12295dc6d"), looks := true }, kinds := [], alts := [], laidByText := true, laidKinds := [.data, .data, .data, .sentinel, .sentinel, .data], laidTests := true, laidLooks := .later }
def LiteralAloneCardSaid : Prop := Claim7.holds Tryz.pinned (.plain (OpenSpec.ofChange literalAloneSpec)) literalAloneCard

/-- THE TIED CARD OF 'seinelaw10.LiteralLists'. -/
def literalListsCard : Claim7 := { stood := { row := literalListsRow, standIns := [], harness := (true, "ff35a09b6c16436f9ecfa8f9bddf14711d54e2a0b81d8ae54dc1cab12295dc6d"), looks := true }, kinds := [], alts := [], laidByText := true, laidKinds := [.data, .data, .data, .sentinel, .sentinel, .data], laidTests := true, laidLooks := .later }
def LiteralListsCardSaid : Prop := Claim7.holds Tryz.pinned (.plain (OpenSpec.ofChange literalListsSpec)) literalListsCard

/-- THE TIED CARD OF 'seinelaw10.LiteralInts'. -/
def literalIntsCard : Claim7 := { stood := { row := literalIntsRow, standIns := [], harness := (true, "ff35a09b6c16436f9ecfa8f9bddf14711d54e2a0b81d8ae54dc1cab12295dc6d"), looks := true }, kinds := [], alts := [], laidByText := true, laidKinds := [.data, .data, .data, .sentinel, .sentinel, .data], laidTests := true, laidLooks := .later }
def LiteralIntsCardSaid : Prop := Claim7.holds Tryz.pinned (.plain (OpenSpec.ofChange literalIntsSpec)) literalIntsCard

/-- THE SECOND FORM's CARD OF 'seinelaw10.LiteralSpots'. -/
def literalSpotsUptoCard : Claim7 := { stood := { row := literalSpotsUptoRow, standIns := [], harness := (true, "ff35a09b6c16436f9ecfa8f9bddf14711d54e2a0b81d8ae54dc1cab12295dc6d"), looks := true }, kinds := [], alts := [], laidByText := true, laidKinds := [.data, .data, .data, .sentinel, .sentinel, .data], laidTests := true, laidLooks := .later }
def LiteralSpotsUptoCardSaid : Prop := Claim7.holds Tryz.pinned (.plain (OpenSpec.upto literalSpotsSpec)) literalSpotsUptoCard

/-- THE SECOND FORM's CARD OF 'seinelaw10.LiteralNames'. -/
def literalNamesUptoCard : Claim7 := { stood := { row := literalNamesUptoRow, standIns := [], harness := (true, "ff35a09b6c16436f9ecfa8f9bddf14711d54e2a0b81d8ae54dc1cab12295dc6d"), looks := true }, kinds := [], alts := [], laidByText := true, laidKinds := [.data, .data, .data, .sentinel, .sentinel, .data], laidTests := true, laidLooks := .later }
def LiteralNamesUptoCardSaid : Prop := Claim7.holds Tryz.pinned (.plain (OpenSpec.upto literalNamesSpec)) literalNamesUptoCard

/-- THE SECOND FORM's CARD OF 'seinelaw10.LiteralBare'. -/
def literalBareUptoCard : Claim7 := { stood := { row := literalBareUptoRow, standIns := [], harness := (true, "ff35a09b6c16436f9ecfa8f9bddf14711d54e2a0b81d8ae54dc1cab12295dc6d"), looks := true }, kinds := [], alts := [], laidByText := true, laidKinds := [.data, .data, .data, .sentinel, .sentinel, .data], laidTests := true, laidLooks := .later }
def LiteralBareUptoCardSaid : Prop := Claim7.holds Tryz.pinned (.plain (OpenSpec.upto literalBareSpec)) literalBareUptoCard

/-- THE SECOND FORM's CARD OF 'seinelaw10.LiteralAlone'. -/
def literalAloneUptoCard : Claim7 := { stood := { row := literalAloneUptoRow, standIns := [], harness := (true, "ff35a09b6c16436f9ecfa8f9bddf14711d54e2a0b81d8ae54dc1cab12295dc6d"), looks := true }, kinds := [], alts := [], laidByText := true, laidKinds := [.data, .data, .data, .sentinel, .sentinel, .data], laidTests := true, laidLooks := .later }
def LiteralAloneUptoCardSaid : Prop := Claim7.holds Tryz.pinned (.plain (OpenSpec.upto literalAloneSpec)) literalAloneUptoCard

/-- THE SECOND FORM's CARD OF 'seinelaw10.LiteralLists'. -/
def literalListsUptoCard : Claim7 := { stood := { row := literalListsUptoRow, standIns := [], harness := (true, "ff35a09b6c16436f9ecfa8f9bddf14711d54e2a0b81d8ae54dc1cab12295dc6d"), looks := true }, kinds := [], alts := [], laidByText := true, laidKinds := [.data, .data, .data, .sentinel, .sentinel, .data], laidTests := true, laidLooks := .later }
def LiteralListsUptoCardSaid : Prop := Claim7.holds Tryz.pinned (.plain (OpenSpec.upto literalListsSpec)) literalListsUptoCard

/-- THE SECOND FORM's CARD OF 'seinelaw10.LiteralInts'. -/
def literalIntsUptoCard : Claim7 := { stood := { row := literalIntsUptoRow, standIns := [], harness := (true, "ff35a09b6c16436f9ecfa8f9bddf14711d54e2a0b81d8ae54dc1cab12295dc6d"), looks := true }, kinds := [], alts := [], laidByText := true, laidKinds := [.data, .data, .data, .sentinel, .sentinel, .data], laidTests := true, laidLooks := .later }
def LiteralIntsUptoCardSaid : Prop := Claim7.holds Tryz.pinned (.plain (OpenSpec.upto literalIntsSpec)) literalIntsUptoCard
end Rows
end Go.Proofs.YtmamgaifpjgfkaaGreatDoor
