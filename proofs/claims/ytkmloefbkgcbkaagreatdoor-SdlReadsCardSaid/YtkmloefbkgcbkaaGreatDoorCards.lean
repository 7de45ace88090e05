/-
  DERIVED. GIVEN WITH THE SEED: THE CARDS: each row of YtkmloefbkgcbkaaGreatDoorRows.lean that lists a variable, with what it lists TIED to the program's text (the seventh form; the later family's looks); each row that meets fmt, with fmt's text TOLD by the authors' own Lean function (tested against real Go, not proved from fmt's source: count such statements apart). THE CARD IS WHAT COUNTS. Prove the row's statement (the work); the ties are given (YtkmloefbkgcbkaaGreatDoorTie.lean); close each card by the builder's one call (the guide's Derived/Test/ToyasCard.lean, 'card_holds'). Laid BY PROGRAM, IN A SANDBOX (cutbox-door.mjs). By AI agents, Wed Nov 11 2026. No macro, syntax, notation, axiom, sorry.
-/
import Derived.Test.YtkmloefbkgcbkaaGreatDoorRows
import GoSem.ClaimSeven
namespace Go.Proofs.YtkmloefbkgcbkaaGreatDoor
namespace Rows

/-- THE TIED CARD OF 'seinelaw8.SdlReads'. -/
def sdlReadsCard : Claim7 := { stood := { row := sdlReadsRow, standIns := [], harness := (true, "ffda64132b1dd94da738220cb67e3a0a5ff3f2f9ca26abb43e6735149f523ce8"), looks := true }, kinds := [], alts := [], laidByText := true, laidKinds := [.data, .data, .data, .sentinel, .sentinel, .data], laidTests := true, laidLooks := .later }
def SdlReadsCardSaid : Prop := Claim7.holds Tryz.pinned (.plain (OpenSpec.ofChange sdlReadsSpec)) sdlReadsCard

/-- THE SECOND FORM's CARD OF 'seinelaw8.SdlReads'. -/
def sdlReadsUptoCard : Claim7 := { stood := { row := sdlReadsUptoRow, standIns := [], harness := (true, "ffda64132b1dd94da738220cb67e3a0a5ff3f2f9ca26abb43e6735149f523ce8"), looks := true }, kinds := [], alts := [], laidByText := true, laidKinds := [.data, .data, .data, .sentinel, .sentinel, .data], laidTests := true, laidLooks := .later }
def SdlReadsUptoCardSaid : Prop := Claim7.holds Tryz.pinned (.plain (OpenSpec.upto sdlReadsSpec)) sdlReadsUptoCard
end Rows
end Go.Proofs.YtkmloefbkgcbkaaGreatDoor
