/-
  DERIVED. GIVEN WITH THE SEED: THE CARDS: each row of YtaekdfcpbepepaaGreatDoorRows.lean that lists a variable, with what it lists TIED to the program's text (the seventh form; the later family's looks); each row that meets fmt, with fmt's text TOLD by the authors' own Lean function (tested against real Go, not proved from fmt's source: count such statements apart). THE CARD IS WHAT COUNTS. Prove the row's statement (the work); the ties are given (YtaekdfcpbepepaaGreatDoorTie.lean); close each card by the builder's one call (the guide's Derived/Test/ToyasCard.lean, 'card_holds'). Laid BY PROGRAM, IN A SANDBOX (cutbox-door.mjs). By AI agents, Wed Nov 11 2026. No macro, syntax, notation, axiom, sorry.
-/
import Derived.Test.YtaekdfcpbepepaaGreatDoorRows
import GoSem.ClaimSeven
namespace Go.Proofs.YtaekdfcpbepepaaGreatDoor
namespace Rows

/-- THE TIED CARD OF 'seinelaw11.SchemaChecks'. -/
def schemaChecksCard : Claim7 := { stood := { row := schemaChecksRow, standIns := [], harness := (true, "766b0bd9347e5affa91f51ccdb26b848051a876c0558a0a785c56d362e920f48"), looks := true }, kinds := [], alts := [], laidByText := true, laidKinds := [.data, .data, .data, .sentinel, .sentinel, .data], laidTests := true, laidLooks := .later }
def SchemaChecksCardSaid : Prop := Claim7.holds Tryz.pinned (.plain (OpenSpec.ofChange schemaChecksSpec)) schemaChecksCard

/-- THE TIED CARD OF 'seinelaw11.SchemaTurned'. -/
def schemaTurnedCard : Claim7 := { stood := { row := schemaTurnedRow, standIns := [], harness := (true, "766b0bd9347e5affa91f51ccdb26b848051a876c0558a0a785c56d362e920f48"), looks := true }, kinds := [], alts := [], laidByText := true, laidKinds := [.data, .data, .data, .sentinel, .sentinel, .data], laidTests := true, laidLooks := .later }
def SchemaTurnedCardSaid : Prop := Claim7.holds Tryz.pinned (.plain (OpenSpec.ofChange schemaTurnedSpec)) schemaTurnedCard

/-- THE TIED CARD OF 'seinelaw11.SchemaGrows'. -/
def schemaGrowsCard : Claim7 := { stood := { row := schemaGrowsRow, standIns := [], harness := (true, "766b0bd9347e5affa91f51ccdb26b848051a876c0558a0a785c56d362e920f48"), looks := true }, kinds := [], alts := [], laidByText := true, laidKinds := [.data, .data, .data, .sentinel, .sentinel, .data], laidTests := true, laidLooks := .later }
def SchemaGrowsCardSaid : Prop := Claim7.holds Tryz.pinned (.plain (OpenSpec.ofChange schemaGrowsSpec)) schemaGrowsCard

/-- THE TIED CARD OF 'seinelaw11.SchemaFaces'. -/
def schemaFacesCard : Claim7 := { stood := { row := schemaFacesRow, standIns := [], harness := (true, "766b0bd9347e5affa91f51ccdb26b848051a876c0558a0a785c56d362e920f48"), looks := true }, kinds := [], alts := [], laidByText := true, laidKinds := [.data, .data, .data, .sentinel, .sentinel, .data], laidTests := true, laidLooks := .later }
def SchemaFacesCardSaid : Prop := Claim7.holds Tryz.pinned (.plain (OpenSpec.ofChange schemaFacesSpec)) schemaFacesCard

/-- THE TIED CARD OF 'seinelaw12.BindChecks'. -/
def bindChecksCard : Claim7 := { stood := { row := bindChecksRow, standIns := [], harness := (true, "766b0bd9347e5affa91f51ccdb26b848051a876c0558a0a785c56d362e920f48"), looks := true }, kinds := [], alts := [], laidByText := true, laidKinds := [.data, .data, .data, .sentinel, .sentinel, .data], laidTests := true, laidLooks := .later }
def BindChecksCardSaid : Prop := Claim7.holds Tryz.pinned (.plain (OpenSpec.ofChange bindChecksSpec)) bindChecksCard

/-- THE TIED CARD OF 'seinelaw12.BindSplits'. -/
def bindSplitsCard : Claim7 := { stood := { row := bindSplitsRow, standIns := [], harness := (true, "766b0bd9347e5affa91f51ccdb26b848051a876c0558a0a785c56d362e920f48"), looks := true }, kinds := [], alts := [], laidByText := true, laidKinds := [.data, .data, .data, .sentinel, .sentinel, .data], laidTests := true, laidLooks := .later }
def BindSplitsCardSaid : Prop := Claim7.holds Tryz.pinned (.plain (OpenSpec.ofChange bindSplitsSpec)) bindSplitsCard

/-- THE TIED CARD OF 'seinelaw12.BindGets'. -/
def bindGetsCard : Claim7 := { stood := { row := bindGetsRow, standIns := [], harness := (true, "766b0bd9347e5affa91f51ccdb26b848051a876c0558a0a785c56d362e920f48"), looks := true }, kinds := [], alts := [], laidByText := true, laidKinds := [.data, .data, .data, .sentinel, .sentinel, .data], laidTests := true, laidLooks := .later }
def BindGetsCardSaid : Prop := Claim7.holds Tryz.pinned (.plain (OpenSpec.ofChange bindGetsSpec)) bindGetsCard

/-- THE TIED CARD OF 'seinelaw12.BindPlain'. -/
def bindPlainCard : Claim7 := { stood := { row := bindPlainRow, standIns := [], harness := (true, "766b0bd9347e5affa91f51ccdb26b848051a876c0558a0a785c56d362e920f48"), looks := true }, kinds := [], alts := [], laidByText := true, laidKinds := [.data, .data, .data, .sentinel, .sentinel, .data], laidTests := true, laidLooks := .later }
def BindPlainCardSaid : Prop := Claim7.holds Tryz.pinned (.plain (OpenSpec.ofChange bindPlainSpec)) bindPlainCard

/-- THE SECOND FORM's CARD OF 'seinelaw11.SchemaChecks'. -/
def schemaChecksUptoCard : Claim7 := { stood := { row := schemaChecksUptoRow, standIns := [], harness := (true, "766b0bd9347e5affa91f51ccdb26b848051a876c0558a0a785c56d362e920f48"), looks := true }, kinds := [], alts := [], laidByText := true, laidKinds := [.data, .data, .data, .sentinel, .sentinel, .data], laidTests := true, laidLooks := .later }
def SchemaChecksUptoCardSaid : Prop := Claim7.holds Tryz.pinned (.plain (OpenSpec.upto schemaChecksSpec)) schemaChecksUptoCard

/-- THE SECOND FORM's CARD OF 'seinelaw11.SchemaTurned'. -/
def schemaTurnedUptoCard : Claim7 := { stood := { row := schemaTurnedUptoRow, standIns := [], harness := (true, "766b0bd9347e5affa91f51ccdb26b848051a876c0558a0a785c56d362e920f48"), looks := true }, kinds := [], alts := [], laidByText := true, laidKinds := [.data, .data, .data, .sentinel, .sentinel, .data], laidTests := true, laidLooks := .later }
def SchemaTurnedUptoCardSaid : Prop := Claim7.holds Tryz.pinned (.plain (OpenSpec.upto schemaTurnedSpec)) schemaTurnedUptoCard

/-- THE SECOND FORM's CARD OF 'seinelaw11.SchemaGrows'. -/
def schemaGrowsUptoCard : Claim7 := { stood := { row := schemaGrowsUptoRow, standIns := [], harness := (true, "766b0bd9347e5affa91f51ccdb26b848051a876c0558a0a785c56d362e920f48"), looks := true }, kinds := [], alts := [], laidByText := true, laidKinds := [.data, .data, .data, .sentinel, .sentinel, .data], laidTests := true, laidLooks := .later }
def SchemaGrowsUptoCardSaid : Prop := Claim7.holds Tryz.pinned (.plain (OpenSpec.upto schemaGrowsSpec)) schemaGrowsUptoCard

/-- THE SECOND FORM's CARD OF 'seinelaw11.SchemaFaces'. -/
def schemaFacesUptoCard : Claim7 := { stood := { row := schemaFacesUptoRow, standIns := [], harness := (true, "766b0bd9347e5affa91f51ccdb26b848051a876c0558a0a785c56d362e920f48"), looks := true }, kinds := [], alts := [], laidByText := true, laidKinds := [.data, .data, .data, .sentinel, .sentinel, .data], laidTests := true, laidLooks := .later }
def SchemaFacesUptoCardSaid : Prop := Claim7.holds Tryz.pinned (.plain (OpenSpec.upto schemaFacesSpec)) schemaFacesUptoCard

/-- THE SECOND FORM's CARD OF 'seinelaw12.BindChecks'. -/
def bindChecksUptoCard : Claim7 := { stood := { row := bindChecksUptoRow, standIns := [], harness := (true, "766b0bd9347e5affa91f51ccdb26b848051a876c0558a0a785c56d362e920f48"), looks := true }, kinds := [], alts := [], laidByText := true, laidKinds := [.data, .data, .data, .sentinel, .sentinel, .data], laidTests := true, laidLooks := .later }
def BindChecksUptoCardSaid : Prop := Claim7.holds Tryz.pinned (.plain (OpenSpec.upto bindChecksSpec)) bindChecksUptoCard

/-- THE SECOND FORM's CARD OF 'seinelaw12.BindSplits'. -/
def bindSplitsUptoCard : Claim7 := { stood := { row := bindSplitsUptoRow, standIns := [], harness := (true, "766b0bd9347e5affa91f51ccdb26b848051a876c0558a0a785c56d362e920f48"), looks := true }, kinds := [], alts := [], laidByText := true, laidKinds := [.data, .data, .data, .sentinel, .sentinel, .data], laidTests := true, laidLooks := .later }
def BindSplitsUptoCardSaid : Prop := Claim7.holds Tryz.pinned (.plain (OpenSpec.upto bindSplitsSpec)) bindSplitsUptoCard

/-- THE SECOND FORM's CARD OF 'seinelaw12.BindGets'. -/
def bindGetsUptoCard : Claim7 := { stood := { row := bindGetsUptoRow, standIns := [], harness := (true, "766b0bd9347e5affa91f51ccdb26b848051a876c0558a0a785c56d362e920f48"), looks := true }, kinds := [], alts := [], laidByText := true, laidKinds := [.data, .data, .data, .sentinel, .sentinel, .data], laidTests := true, laidLooks := .later }
def BindGetsUptoCardSaid : Prop := Claim7.holds Tryz.pinned (.plain (OpenSpec.upto bindGetsSpec)) bindGetsUptoCard

/-- THE SECOND FORM's CARD OF 'seinelaw12.BindPlain'. -/
def bindPlainUptoCard : Claim7 := { stood := { row := bindPlainUptoRow, standIns := [], harness := (true, "766b0bd9347e5affa91f51ccdb26b848051a876c0558a0a785c56d362e920f48"), looks := true }, kinds := [], alts := [], laidByText := true, laidKinds := [.data, .data, .data, .sentinel, .sentinel, .data], laidTests := true, laidLooks := .later }
def BindPlainUptoCardSaid : Prop := Claim7.holds Tryz.pinned (.plain (OpenSpec.upto bindPlainSpec)) bindPlainUptoCard
end Rows
end Go.Proofs.YtaekdfcpbepepaaGreatDoor
