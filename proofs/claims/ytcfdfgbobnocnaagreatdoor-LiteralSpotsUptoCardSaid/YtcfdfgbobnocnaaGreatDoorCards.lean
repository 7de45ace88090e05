/-
  DERIVED. GIVEN WITH THE SEED: THE CARDS: each row of YtcfdfgbobnocnaaGreatDoorRows.lean that lists a variable, with what it lists TIED to the program's text (the seventh form; the later family's looks); each row that meets fmt, with fmt's text TOLD by the authors' own Lean function (tested against real Go, not proved from fmt's source: count such statements apart). THE CARD IS WHAT COUNTS. Prove the row's statement (the work); the ties are given (YtcfdfgbobnocnaaGreatDoorTie.lean); close each card by the builder's one call (the guide's Derived/Test/ToyasCard.lean, 'card_holds'). Laid BY PROGRAM, IN A SANDBOX (cutbox-door.mjs). By AI agents, Wed Nov 11 2026. No macro, syntax, notation, axiom, sorry.
-/
import Derived.Test.YtcfdfgbobnocnaaGreatDoorRows
import GoSem.ClaimSeven
namespace Go.Proofs.YtcfdfgbobnocnaaGreatDoor
namespace Rows

/-- THE TIED CARD OF 'seinelaw10.LiteralSpots'. -/
def literalSpotsCard : Claim7 := { stood := { row := literalSpotsRow, standIns := [], harness := (true, "0e922f32d0571fa5db6422d31291dc867f1db360525152d06b7315d7139ff346"), looks := true }, kinds := [], alts := [], laidByText := true, laidKinds := [.data, .data, .data, .sentinel, .sentinel, .data], laidTests := true, laidLooks := .later }
def LiteralSpotsCardSaid : Prop := Claim7.holds Tryz.pinned (.plain (OpenSpec.ofChange literalSpotsSpec)) literalSpotsCard

/-- THE TIED CARD OF 'seinelaw10.LiteralNames'. -/
def literalNamesCard : Claim7 := { stood := { row := literalNamesRow, standIns := [], harness := (true, "0e922f32d0571fa5db6422d31291dc867f1db360525152d06b7315d7139ff346"), looks := true }, kinds := [], alts := [], laidByText := true, laidKinds := [.data, .data, .data, .sentinel, .sentinel, .data], laidTests := true, laidLooks := .later }
def LiteralNamesCardSaid : Prop := Claim7.holds Tryz.pinned (.plain (OpenSpec.ofChange literalNamesSpec)) literalNamesCard

/-- THE TIED CARD OF 'seinelaw10.LiteralBare'. -/
def literalBareCard : Claim7 := { stood := { row := literalBareRow, standIns := [], harness := (true, "0e922f32d0571fa5db6422d31291dc867f1db360525152d06b7315d7139ff346"), looks := true }, kinds := [], alts := [], laidByText := true, laidKinds := [.data, .data, .data, .sentinel, .sentinel, .data], laidTests := true, laidLooks := .later }
def LiteralBareCardSaid : Prop := Claim7.holds Tryz.pinned (.plain (OpenSpec.ofChange literalBareSpec)) literalBareCard

/-- THE TIED CARD OF 'seinelaw10.LiteralLists'. -/
def literalListsCard : Claim7 := { stood := { row := literalListsRow, standIns := [], harness := (true, "0e922f32d0571fa5db6422d31291dc867f1db360525152d06b7315d7139ff346"), looks := true }, kinds := [], alts := [], laidByText := true, laidKinds := [.data, .data, .data, .sentinel, .sentinel, .data], laidTests := true, laidLooks := .later }
def LiteralListsCardSaid : Prop := Claim7.holds Tryz.pinned (.plain (OpenSpec.ofChange literalListsSpec)) literalListsCard

/-- THE SECOND FORM's CARD OF 'seinelaw10.LiteralSpots'. -/
def literalSpotsUptoCard : Claim7 := { stood := { row := literalSpotsUptoRow, standIns := [], harness := (true, "0e922f32d0571fa5db6422d31291dc867f1db360525152d06b7315d7139ff346"), looks := true }, kinds := [], alts := [], laidByText := true, laidKinds := [.data, .data, .data, .sentinel, .sentinel, .data], laidTests := true, laidLooks := .later }
def LiteralSpotsUptoCardSaid : Prop := Claim7.holds Tryz.pinned (.plain (OpenSpec.upto literalSpotsSpec)) literalSpotsUptoCard

/-- THE SECOND FORM's CARD OF 'seinelaw10.LiteralNames'. -/
def literalNamesUptoCard : Claim7 := { stood := { row := literalNamesUptoRow, standIns := [], harness := (true, "0e922f32d0571fa5db6422d31291dc867f1db360525152d06b7315d7139ff346"), looks := true }, kinds := [], alts := [], laidByText := true, laidKinds := [.data, .data, .data, .sentinel, .sentinel, .data], laidTests := true, laidLooks := .later }
def LiteralNamesUptoCardSaid : Prop := Claim7.holds Tryz.pinned (.plain (OpenSpec.upto literalNamesSpec)) literalNamesUptoCard

/-- THE SECOND FORM's CARD OF 'seinelaw10.LiteralBare'. -/
def literalBareUptoCard : Claim7 := { stood := { row := literalBareUptoRow, standIns := [], harness := (true, "0e922f32d0571fa5db6422d31291dc867f1db360525152d06b7315d7139ff346"), looks := true }, kinds := [], alts := [], laidByText := true, laidKinds := [.data, .data, .data, .sentinel, .sentinel, .data], laidTests := true, laidLooks := .later }
def LiteralBareUptoCardSaid : Prop := Claim7.holds Tryz.pinned (.plain (OpenSpec.upto literalBareSpec)) literalBareUptoCard

/-- THE SECOND FORM's CARD OF 'seinelaw10.LiteralLists'. -/
def literalListsUptoCard : Claim7 := { stood := { row := literalListsUptoRow, standIns := [], harness := (true, "0e922f32d0571fa5db6422d31291dc867f1db360525152d06b7315d7139ff346"), looks := true }, kinds := [], alts := [], laidByText := true, laidKinds := [.data, .data, .data, .sentinel, .sentinel, .data], laidTests := true, laidLooks := .later }
def LiteralListsUptoCardSaid : Prop := Claim7.holds Tryz.pinned (.plain (OpenSpec.upto literalListsSpec)) literalListsUptoCard
end Rows
end Go.Proofs.YtcfdfgbobnocnaaGreatDoor
