/-
  DERIVED. GIVEN WITH THE SEED: THE CARDS: each row of YtggcdinoflchjaaGreatDoorRows.lean that lists a variable, with what it lists TIED to the program's text (the seventh form; the later family's looks); each row that meets fmt, with fmt's text TOLD by the authors' own Lean function (tested against real Go, not proved from fmt's source: count such statements apart). THE CARD IS WHAT COUNTS. Prove the row's statement (the work); the ties are given (YtggcdinoflchjaaGreatDoorTie.lean); close each card by the builder's one call (the guide's Derived/Test/ToyasCard.lean, 'card_holds'). Laid BY PROGRAM, IN A SANDBOX (cutbox-door.mjs). By AI agents, Wed Nov 11 2026. No macro, syntax, notation, axiom, sorry.
-/
import Derived.Test.YtggcdinoflchjaaGreatDoorRows
import GoSem.ClaimSeven
namespace Go.Proofs.YtggcdinoflchjaaGreatDoor
namespace Rows

/-- THE TIED CARD OF 'squinchlaw07.StepMerges'. -/
def stepMergesCard : Claim7 := { stood := { row := stepMergesRow, standIns := [], harness := (true, "b4206eb554683d15d65263ae40977b46b018a607dfbed3ffd1c4554ae7010b9b"), looks := false }, kinds := [], alts := [], laidByText := true, laidKinds := [.data, .data, .data, .pinned], laidTests := true, laidLooks := .later }
def StepMergesCardSaid : Prop := Claim7.holds Tryz.pinned (.plain (OpenSpec.ofChange stepMergesSpec)) stepMergesCard

/-- THE TIED CARD OF 'squinchlaw07.StepUpper'. -/
def stepUpperCard : Claim7 := { stood := { row := stepUpperRow, standIns := [], harness := (true, "b4206eb554683d15d65263ae40977b46b018a607dfbed3ffd1c4554ae7010b9b"), looks := false }, kinds := [], alts := [], laidByText := true, laidKinds := [.data, .data, .data, .pinned], laidTests := true, laidLooks := .later }
def StepUpperCardSaid : Prop := Claim7.holds Tryz.pinned (.plain (OpenSpec.ofChange stepUpperSpec)) stepUpperCard

/-- THE TIED CARD OF 'squinchlaw07.StepNexts'. -/
def stepNextsCard : Claim7 := { stood := { row := stepNextsRow, standIns := [], harness := (true, "b4206eb554683d15d65263ae40977b46b018a607dfbed3ffd1c4554ae7010b9b"), looks := false }, kinds := [], alts := [], laidByText := true, laidKinds := [.data, .data, .data, .pinned], laidTests := true, laidLooks := .later }
def StepNextsCardSaid : Prop := Claim7.holds Tryz.pinned (.plain (OpenSpec.ofChange stepNextsSpec)) stepNextsCard

/-- THE TIED CARD OF 'squinchlaw07.StepBegins'. -/
def stepBeginsCard : Claim7 := { stood := { row := stepBeginsRow, standIns := [], harness := (true, "b4206eb554683d15d65263ae40977b46b018a607dfbed3ffd1c4554ae7010b9b"), looks := false }, kinds := [], alts := [], laidByText := true, laidKinds := [.data, .data, .data, .pinned], laidTests := true, laidLooks := .later }
def StepBeginsCardSaid : Prop := Claim7.holds Tryz.pinned (.plain (OpenSpec.ofChange stepBeginsSpec)) stepBeginsCard

/-- THE TIED CARD OF 'squinchlaw07.StepHeights'. -/
def stepHeightsCard : Claim7 := { stood := { row := stepHeightsRow, standIns := [], harness := (true, "b4206eb554683d15d65263ae40977b46b018a607dfbed3ffd1c4554ae7010b9b"), looks := false }, kinds := [], alts := [], laidByText := true, laidKinds := [.data, .data, .data, .pinned], laidTests := true, laidLooks := .later }
def StepHeightsCardSaid : Prop := Claim7.holds Tryz.pinned (.plain (OpenSpec.ofChange stepHeightsSpec)) stepHeightsCard

/-- THE TIED CARD OF 'squinchlaw07.StepBelow'. -/
def stepBelowCard : Claim7 := { stood := { row := stepBelowRow, standIns := [], harness := (true, "b4206eb554683d15d65263ae40977b46b018a607dfbed3ffd1c4554ae7010b9b"), looks := false }, kinds := [], alts := [], laidByText := true, laidKinds := [.data, .data, .data, .pinned], laidTests := true, laidLooks := .later }
def StepBelowCardSaid : Prop := Claim7.holds Tryz.pinned (.plain (OpenSpec.ofChange stepBelowSpec)) stepBelowCard

/-- THE TIED CARD OF 'squinchlaw07.StepSelf'. -/
def stepSelfCard : Claim7 := { stood := { row := stepSelfRow, standIns := [], harness := (true, "b4206eb554683d15d65263ae40977b46b018a607dfbed3ffd1c4554ae7010b9b"), looks := false }, kinds := [], alts := [], laidByText := true, laidKinds := [.data, .data, .data, .pinned], laidTests := true, laidLooks := .later }
def StepSelfCardSaid : Prop := Claim7.holds Tryz.pinned (.plain (OpenSpec.ofChange stepSelfSpec)) stepSelfCard

/-- THE SECOND FORM's CARD OF 'squinchlaw07.StepMerges'. -/
def stepMergesUptoCard : Claim7 := { stood := { row := stepMergesUptoRow, standIns := [], harness := (true, "b4206eb554683d15d65263ae40977b46b018a607dfbed3ffd1c4554ae7010b9b"), looks := false }, kinds := [], alts := [], laidByText := true, laidKinds := [.data, .data, .data, .pinned], laidTests := true, laidLooks := .later }
def StepMergesUptoCardSaid : Prop := Claim7.holds Tryz.pinned (.plain (OpenSpec.upto stepMergesSpec)) stepMergesUptoCard

/-- THE SECOND FORM's CARD OF 'squinchlaw07.StepUpper'. -/
def stepUpperUptoCard : Claim7 := { stood := { row := stepUpperUptoRow, standIns := [], harness := (true, "b4206eb554683d15d65263ae40977b46b018a607dfbed3ffd1c4554ae7010b9b"), looks := false }, kinds := [], alts := [], laidByText := true, laidKinds := [.data, .data, .data, .pinned], laidTests := true, laidLooks := .later }
def StepUpperUptoCardSaid : Prop := Claim7.holds Tryz.pinned (.plain (OpenSpec.upto stepUpperSpec)) stepUpperUptoCard

/-- THE SECOND FORM's CARD OF 'squinchlaw07.StepNexts'. -/
def stepNextsUptoCard : Claim7 := { stood := { row := stepNextsUptoRow, standIns := [], harness := (true, "b4206eb554683d15d65263ae40977b46b018a607dfbed3ffd1c4554ae7010b9b"), looks := false }, kinds := [], alts := [], laidByText := true, laidKinds := [.data, .data, .data, .pinned], laidTests := true, laidLooks := .later }
def StepNextsUptoCardSaid : Prop := Claim7.holds Tryz.pinned (.plain (OpenSpec.upto stepNextsSpec)) stepNextsUptoCard

/-- THE SECOND FORM's CARD OF 'squinchlaw07.StepBegins'. -/
def stepBeginsUptoCard : Claim7 := { stood := { row := stepBeginsUptoRow, standIns := [], harness := (true, "b4206eb554683d15d65263ae40977b46b018a607dfbed3ffd1c4554ae7010b9b"), looks := false }, kinds := [], alts := [], laidByText := true, laidKinds := [.data, .data, .data, .pinned], laidTests := true, laidLooks := .later }
def StepBeginsUptoCardSaid : Prop := Claim7.holds Tryz.pinned (.plain (OpenSpec.upto stepBeginsSpec)) stepBeginsUptoCard

/-- THE SECOND FORM's CARD OF 'squinchlaw07.StepHeights'. -/
def stepHeightsUptoCard : Claim7 := { stood := { row := stepHeightsUptoRow, standIns := [], harness := (true, "b4206eb554683d15d65263ae40977b46b018a607dfbed3ffd1c4554ae7010b9b"), looks := false }, kinds := [], alts := [], laidByText := true, laidKinds := [.data, .data, .data, .pinned], laidTests := true, laidLooks := .later }
def StepHeightsUptoCardSaid : Prop := Claim7.holds Tryz.pinned (.plain (OpenSpec.upto stepHeightsSpec)) stepHeightsUptoCard

/-- THE SECOND FORM's CARD OF 'squinchlaw07.StepBelow'. -/
def stepBelowUptoCard : Claim7 := { stood := { row := stepBelowUptoRow, standIns := [], harness := (true, "b4206eb554683d15d65263ae40977b46b018a607dfbed3ffd1c4554ae7010b9b"), looks := false }, kinds := [], alts := [], laidByText := true, laidKinds := [.data, .data, .data, .pinned], laidTests := true, laidLooks := .later }
def StepBelowUptoCardSaid : Prop := Claim7.holds Tryz.pinned (.plain (OpenSpec.upto stepBelowSpec)) stepBelowUptoCard

/-- THE SECOND FORM's CARD OF 'squinchlaw07.StepSelf'. -/
def stepSelfUptoCard : Claim7 := { stood := { row := stepSelfUptoRow, standIns := [], harness := (true, "b4206eb554683d15d65263ae40977b46b018a607dfbed3ffd1c4554ae7010b9b"), looks := false }, kinds := [], alts := [], laidByText := true, laidKinds := [.data, .data, .data, .pinned], laidTests := true, laidLooks := .later }
def StepSelfUptoCardSaid : Prop := Claim7.holds Tryz.pinned (.plain (OpenSpec.upto stepSelfSpec)) stepSelfUptoCard
end Rows
end Go.Proofs.YtggcdinoflchjaaGreatDoor
