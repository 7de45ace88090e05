/-
  DERIVED. GIVEN WITH THE SEED: THE CARDS: each row of YtfoocpidahiglaaDoorRows.lean that lists a variable, with what it lists TIED to the program's text (the seventh form; the later family's looks); each row that meets fmt, with fmt's text TOLD by the authors' own Lean function (tested against real Go, not proved from fmt's source: count such statements apart). THE CARD IS WHAT COUNTS. Prove the row's statement (the work); the ties are given (YtfoocpidahiglaaDoorTie.lean); close each card by the builder's one call (the guide's Derived/Test/ToyasCard.lean, 'card_holds'). Laid BY PROGRAM, IN A SANDBOX (cutbox-door.mjs). By AI agents, Wed Nov 11 2026. No macro, syntax, notation, axiom, sorry.
-/
import Derived.Test.YtfoocpidahiglaaDoorRows
import GoSem.ClaimSeven
namespace Go.Proofs.YtfoocpidahiglaaDoor
namespace Rows

/-- THE TIED CARD OF 'seinelaw3.TokenNumbers'. -/
def tokenNumbersCard : Claim7 := { stood := { row := tokenNumbersRow, standIns := [], harness := (true, "e131229f0e077c45142f097c300c662fab925825516996170e0a5607763ae8cf"), looks := true }, kinds := [], alts := [], laidByText := true, laidKinds := [.data, .data, .data, .sentinel, .sentinel, .data], laidTests := true, laidLooks := .later }
def TokenNumbersCardSaid : Prop := Claim7.holds Tryd.pinned (.plain (OpenSpec.ofChange tokenNumbersSpec)) tokenNumbersCard

/-- THE TIED CARD OF 'seinelaw3.TokenRoom'. -/
def tokenRoomCard : Claim7 := { stood := { row := tokenRoomRow, standIns := [], harness := (true, "e131229f0e077c45142f097c300c662fab925825516996170e0a5607763ae8cf"), looks := true }, kinds := [], alts := [], laidByText := true, laidKinds := [.data, .data, .data, .sentinel, .sentinel, .data], laidTests := true, laidLooks := .later }
def TokenRoomCardSaid : Prop := Claim7.holds Tryd.pinned (.plain (OpenSpec.ofChange tokenRoomSpec)) tokenRoomCard

/-- THE TIED CARD OF 'seinelaw3.TokenUnits'. -/
def tokenUnitsCard : Claim7 := { stood := { row := tokenUnitsRow, standIns := [], harness := (true, "e131229f0e077c45142f097c300c662fab925825516996170e0a5607763ae8cf"), looks := true }, kinds := [], alts := [], laidByText := true, laidKinds := [.data, .data, .data, .sentinel, .sentinel, .data], laidTests := true, laidLooks := .later }
def TokenUnitsCardSaid : Prop := Claim7.holds Tryd.pinned (.plain (OpenSpec.ofChange tokenUnitsSpec)) tokenUnitsCard

/-- THE TIED CARD OF 'seinelaw3.TokenBlocks'. -/
def tokenBlocksCard : Claim7 := { stood := { row := tokenBlocksRow, standIns := [], harness := (true, "e131229f0e077c45142f097c300c662fab925825516996170e0a5607763ae8cf"), looks := true }, kinds := [], alts := [], laidByText := true, laidKinds := [.data, .data, .data, .sentinel, .sentinel, .data], laidTests := true, laidLooks := .later }
def TokenBlocksCardSaid : Prop := Claim7.holds Tryd.pinned (.plain (OpenSpec.ofChange tokenBlocksSpec)) tokenBlocksCard

/-- THE SECOND FORM's CARD OF 'seinelaw3.TokenNumbers'. -/
def tokenNumbersUptoCard : Claim7 := { stood := { row := tokenNumbersUptoRow, standIns := [], harness := (true, "e131229f0e077c45142f097c300c662fab925825516996170e0a5607763ae8cf"), looks := true }, kinds := [], alts := [], laidByText := true, laidKinds := [.data, .data, .data, .sentinel, .sentinel, .data], laidTests := true, laidLooks := .later }
def TokenNumbersUptoCardSaid : Prop := Claim7.holds Tryd.pinned (.plain (OpenSpec.upto tokenNumbersSpec)) tokenNumbersUptoCard

/-- THE SECOND FORM's CARD OF 'seinelaw3.TokenRoom'. -/
def tokenRoomUptoCard : Claim7 := { stood := { row := tokenRoomUptoRow, standIns := [], harness := (true, "e131229f0e077c45142f097c300c662fab925825516996170e0a5607763ae8cf"), looks := true }, kinds := [], alts := [], laidByText := true, laidKinds := [.data, .data, .data, .sentinel, .sentinel, .data], laidTests := true, laidLooks := .later }
def TokenRoomUptoCardSaid : Prop := Claim7.holds Tryd.pinned (.plain (OpenSpec.upto tokenRoomSpec)) tokenRoomUptoCard

/-- THE SECOND FORM's CARD OF 'seinelaw3.TokenUnits'. -/
def tokenUnitsUptoCard : Claim7 := { stood := { row := tokenUnitsUptoRow, standIns := [], harness := (true, "e131229f0e077c45142f097c300c662fab925825516996170e0a5607763ae8cf"), looks := true }, kinds := [], alts := [], laidByText := true, laidKinds := [.data, .data, .data, .sentinel, .sentinel, .data], laidTests := true, laidLooks := .later }
def TokenUnitsUptoCardSaid : Prop := Claim7.holds Tryd.pinned (.plain (OpenSpec.upto tokenUnitsSpec)) tokenUnitsUptoCard

/-- THE SECOND FORM's CARD OF 'seinelaw3.TokenBlocks'. -/
def tokenBlocksUptoCard : Claim7 := { stood := { row := tokenBlocksUptoRow, standIns := [], harness := (true, "e131229f0e077c45142f097c300c662fab925825516996170e0a5607763ae8cf"), looks := true }, kinds := [], alts := [], laidByText := true, laidKinds := [.data, .data, .data, .sentinel, .sentinel, .data], laidTests := true, laidLooks := .later }
def TokenBlocksUptoCardSaid : Prop := Claim7.holds Tryd.pinned (.plain (OpenSpec.upto tokenBlocksSpec)) tokenBlocksUptoCard
end Rows
end Go.Proofs.YtfoocpidahiglaaDoor
