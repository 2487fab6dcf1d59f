/-
  DERIVED. GIVEN WITH THE SEED: THE CARDS: each row of YtegljjbclladdaaGreatDoorRows.lean that lists a variable, with what it lists TIED to the program's text (the seventh form; the later family's looks); each row that meets fmt, with fmt's text TOLD by the authors' own Lean function (tested against real Go, not proved from fmt's source: count such statements apart). THE CARD IS WHAT COUNTS. Prove the row's statement (the work); the ties are given (YtegljjbclladdaaGreatDoorTie.lean); close each card by the builder's one call (the guide's Derived/Test/ToyasCard.lean, 'card_holds'). Laid BY PROGRAM, IN A SANDBOX (cutbox-door.mjs). By AI agents, Wed Nov 11 2026. No macro, syntax, notation, axiom, sorry.
-/
import Derived.Test.YtegljjbclladdaaGreatDoorRows
import GoSem.ClaimSeven
namespace Go.Proofs.YtegljjbclladdaaGreatDoor
namespace Rows

/-- THE TIED CARD OF 'squinchlaw07.StepHeights'. -/
def stepHeightsCard : Claim7 := { stood := { row := stepHeightsRow, standIns := [], harness := (true, "8951b3d4d7dc5f615c673943d8d60caaea98d81ec330462bc7f10e945d38c339"), looks := false }, kinds := [], alts := [], laidByText := true, laidKinds := [.data, .data, .data, .pinned], laidTests := true, laidLooks := .later }
def StepHeightsCardSaid : Prop := Claim7.holds Tryz.pinned (.plain (OpenSpec.ofChange stepHeightsSpec)) stepHeightsCard

/-- THE TIED CARD OF 'squinchlaw07.StepBelow'. -/
def stepBelowCard : Claim7 := { stood := { row := stepBelowRow, standIns := [], harness := (true, "8951b3d4d7dc5f615c673943d8d60caaea98d81ec330462bc7f10e945d38c339"), looks := false }, kinds := [], alts := [], laidByText := true, laidKinds := [.data, .data, .data, .pinned], laidTests := true, laidLooks := .later }
def StepBelowCardSaid : Prop := Claim7.holds Tryz.pinned (.plain (OpenSpec.ofChange stepBelowSpec)) stepBelowCard

/-- THE SECOND FORM's CARD OF 'squinchlaw07.StepHeights'. -/
def stepHeightsUptoCard : Claim7 := { stood := { row := stepHeightsUptoRow, standIns := [], harness := (true, "8951b3d4d7dc5f615c673943d8d60caaea98d81ec330462bc7f10e945d38c339"), looks := false }, kinds := [], alts := [], laidByText := true, laidKinds := [.data, .data, .data, .pinned], laidTests := true, laidLooks := .later }
def StepHeightsUptoCardSaid : Prop := Claim7.holds Tryz.pinned (.plain (OpenSpec.upto stepHeightsSpec)) stepHeightsUptoCard

/-- THE SECOND FORM's CARD OF 'squinchlaw07.StepBelow'. -/
def stepBelowUptoCard : Claim7 := { stood := { row := stepBelowUptoRow, standIns := [], harness := (true, "8951b3d4d7dc5f615c673943d8d60caaea98d81ec330462bc7f10e945d38c339"), looks := false }, kinds := [], alts := [], laidByText := true, laidKinds := [.data, .data, .data, .pinned], laidTests := true, laidLooks := .later }
def StepBelowUptoCardSaid : Prop := Claim7.holds Tryz.pinned (.plain (OpenSpec.upto stepBelowSpec)) stepBelowUptoCard
end Rows
end Go.Proofs.YtegljjbclladdaaGreatDoor
