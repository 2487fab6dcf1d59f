/-
  DERIVED. GIVEN WITH THE SEED: THE CARDS: each row of YtpincofjopmaaaaGreatDoorRows.lean that lists a variable, with what it lists TIED to the program's text (the seventh form; the later family's looks); each row that meets fmt, with fmt's text TOLD by the authors' own Lean function (tested against real Go, not proved from fmt's source: count such statements apart). THE CARD IS WHAT COUNTS. Prove the row's statement (the work); the ties are given (YtpincofjopmaaaaGreatDoorTie.lean); close each card by the builder's one call (the guide's Derived/Test/ToyasCard.lean, 'card_holds'). Laid BY PROGRAM, IN A SANDBOX (cutbox-door.mjs). By AI agents, Wed Nov 11 2026. No macro, syntax, notation, axiom, sorry.
-/
import Derived.Test.YtpincofjopmaaaaGreatDoorRows
import GoSem.ClaimSeven
namespace Go.Proofs.YtpincofjopmaaaaGreatDoor
namespace Rows

/-- THE TIED CARD OF 'squinchlaw05.ClassSame'. -/
def classSameCard : Claim7 := { stood := { row := classSameRow, standIns := [], harness := (true, "f2098e8517041d123d947ef8ab020dba909bc84ffa19994fbc628841a7ced9ca"), looks := false }, kinds := [], alts := [], laidByText := true, laidKinds := [.data, .data, .pinned], laidTests := true, laidLooks := .later }
def ClassSameCardSaid : Prop := Claim7.holds Tryz.pinned (.plain (OpenSpec.ofChange classSameSpec)) classSameCard

/-- THE TIED CARD OF 'squinchlaw05.ClassSigns'. -/
def classSignsCard : Claim7 := { stood := { row := classSignsRow, standIns := [], harness := (true, "f2098e8517041d123d947ef8ab020dba909bc84ffa19994fbc628841a7ced9ca"), looks := false }, kinds := [], alts := [], laidByText := true, laidKinds := [.data, .data, .pinned], laidTests := true, laidLooks := .later }
def ClassSignsCardSaid : Prop := Claim7.holds Tryz.pinned (.plain (OpenSpec.ofChange classSignsSpec)) classSignsCard

/-- THE TIED CARD OF 'squinchlaw06.HierMakes'. -/
def hierMakesCard : Claim7 := { stood := { row := hierMakesRow, standIns := [], harness := (true, "f2098e8517041d123d947ef8ab020dba909bc84ffa19994fbc628841a7ced9ca"), looks := false }, kinds := [], alts := [], laidByText := true, laidKinds := [.data, .data, .data, .pinned], laidTests := true, laidLooks := .later }
def HierMakesCardSaid : Prop := Claim7.holds Tryz.pinned (.plain (OpenSpec.ofChange hierMakesSpec)) hierMakesCard

/-- THE TIED CARD OF 'squinchlaw06.HierSubs'. -/
def hierSubsCard : Claim7 := { stood := { row := hierSubsRow, standIns := [], harness := (true, "f2098e8517041d123d947ef8ab020dba909bc84ffa19994fbc628841a7ced9ca"), looks := false }, kinds := [], alts := [], laidByText := true, laidKinds := [.data, .data, .data, .pinned], laidTests := true, laidLooks := .later }
def HierSubsCardSaid : Prop := Claim7.holds Tryz.pinned (.plain (OpenSpec.ofChange hierSubsSpec)) hierSubsCard

/-- THE TIED CARD OF 'squinchlaw06.HierGoesOn'. -/
def hierGoesOnCard : Claim7 := { stood := { row := hierGoesOnRow, standIns := [], harness := (true, "f2098e8517041d123d947ef8ab020dba909bc84ffa19994fbc628841a7ced9ca"), looks := false }, kinds := [], alts := [], laidByText := true, laidKinds := [.data, .data, .data, .pinned], laidTests := true, laidLooks := .later }
def HierGoesOnCardSaid : Prop := Claim7.holds Tryz.pinned (.plain (OpenSpec.ofChange hierGoesOnSpec)) hierGoesOnCard

/-- THE TIED CARD OF 'squinchlaw06.HierMembers'. -/
def hierMembersCard : Claim7 := { stood := { row := hierMembersRow, standIns := [], harness := (true, "f2098e8517041d123d947ef8ab020dba909bc84ffa19994fbc628841a7ced9ca"), looks := false }, kinds := [], alts := [], laidByText := true, laidKinds := [.data, .data, .data, .pinned], laidTests := true, laidLooks := .later }
def HierMembersCardSaid : Prop := Claim7.holds Tryz.pinned (.plain (OpenSpec.ofChange hierMembersSpec)) hierMembersCard

/-- THE TIED CARD OF 'squinchlaw06.HierKeeps'. -/
def hierKeepsCard : Claim7 := { stood := { row := hierKeepsRow, standIns := [], harness := (true, "f2098e8517041d123d947ef8ab020dba909bc84ffa19994fbc628841a7ced9ca"), looks := false }, kinds := [], alts := [], laidByText := true, laidKinds := [.data, .data, .data, .pinned], laidTests := true, laidLooks := .later }
def HierKeepsCardSaid : Prop := Claim7.holds Tryz.pinned (.plain (OpenSpec.ofChange hierKeepsSpec)) hierKeepsCard

/-- THE TIED CARD OF 'squinchlaw06.HierGiven'. -/
def hierGivenCard : Claim7 := { stood := { row := hierGivenRow, standIns := [], harness := (true, "f2098e8517041d123d947ef8ab020dba909bc84ffa19994fbc628841a7ced9ca"), looks := false }, kinds := [], alts := [], laidByText := true, laidKinds := [.data, .data, .data, .pinned], laidTests := true, laidLooks := .later }
def HierGivenCardSaid : Prop := Claim7.holds Tryz.pinned (.plain (OpenSpec.ofChange hierGivenSpec)) hierGivenCard

/-- THE TIED CARD OF 'squinchlaw06.HierOrder'. -/
def hierOrderCard : Claim7 := { stood := { row := hierOrderRow, standIns := [], harness := (true, "f2098e8517041d123d947ef8ab020dba909bc84ffa19994fbc628841a7ced9ca"), looks := false }, kinds := [], alts := [], laidByText := true, laidKinds := [.data, .data, .data, .pinned], laidTests := true, laidLooks := .later }
def HierOrderCardSaid : Prop := Claim7.holds Tryz.pinned (.plain (OpenSpec.ofChange hierOrderSpec)) hierOrderCard

/-- THE TIED CARD OF 'squinchlaw06.HierRoot'. -/
def hierRootCard : Claim7 := { stood := { row := hierRootRow, standIns := [], harness := (true, "f2098e8517041d123d947ef8ab020dba909bc84ffa19994fbc628841a7ced9ca"), looks := false }, kinds := [], alts := [], laidByText := true, laidKinds := [.data, .data, .data, .pinned], laidTests := true, laidLooks := .later }
def HierRootCardSaid : Prop := Claim7.holds Tryz.pinned (.plain (OpenSpec.ofChange hierRootSpec)) hierRootCard

/-- THE TIED CARD OF 'squinchlaw06.HierOwners'. -/
def hierOwnersCard : Claim7 := { stood := { row := hierOwnersRow, standIns := [], harness := (true, "f2098e8517041d123d947ef8ab020dba909bc84ffa19994fbc628841a7ced9ca"), looks := false }, kinds := [], alts := [], laidByText := true, laidKinds := [.data, .data, .data, .pinned], laidTests := true, laidLooks := .later }
def HierOwnersCardSaid : Prop := Claim7.holds Tryz.pinned (.plain (OpenSpec.ofChange hierOwnersSpec)) hierOwnersCard

/-- THE SECOND FORM's CARD OF 'squinchlaw05.ClassSame'. -/
def classSameUptoCard : Claim7 := { stood := { row := classSameUptoRow, standIns := [], harness := (true, "f2098e8517041d123d947ef8ab020dba909bc84ffa19994fbc628841a7ced9ca"), looks := false }, kinds := [], alts := [], laidByText := true, laidKinds := [.data, .data, .pinned], laidTests := true, laidLooks := .later }
def ClassSameUptoCardSaid : Prop := Claim7.holds Tryz.pinned (.plain (OpenSpec.upto classSameSpec)) classSameUptoCard

/-- THE SECOND FORM's CARD OF 'squinchlaw05.ClassSigns'. -/
def classSignsUptoCard : Claim7 := { stood := { row := classSignsUptoRow, standIns := [], harness := (true, "f2098e8517041d123d947ef8ab020dba909bc84ffa19994fbc628841a7ced9ca"), looks := false }, kinds := [], alts := [], laidByText := true, laidKinds := [.data, .data, .pinned], laidTests := true, laidLooks := .later }
def ClassSignsUptoCardSaid : Prop := Claim7.holds Tryz.pinned (.plain (OpenSpec.upto classSignsSpec)) classSignsUptoCard

/-- THE SECOND FORM's CARD OF 'squinchlaw06.HierMakes'. -/
def hierMakesUptoCard : Claim7 := { stood := { row := hierMakesUptoRow, standIns := [], harness := (true, "f2098e8517041d123d947ef8ab020dba909bc84ffa19994fbc628841a7ced9ca"), looks := false }, kinds := [], alts := [], laidByText := true, laidKinds := [.data, .data, .data, .pinned], laidTests := true, laidLooks := .later }
def HierMakesUptoCardSaid : Prop := Claim7.holds Tryz.pinned (.plain (OpenSpec.upto hierMakesSpec)) hierMakesUptoCard

/-- THE SECOND FORM's CARD OF 'squinchlaw06.HierSubs'. -/
def hierSubsUptoCard : Claim7 := { stood := { row := hierSubsUptoRow, standIns := [], harness := (true, "f2098e8517041d123d947ef8ab020dba909bc84ffa19994fbc628841a7ced9ca"), looks := false }, kinds := [], alts := [], laidByText := true, laidKinds := [.data, .data, .data, .pinned], laidTests := true, laidLooks := .later }
def HierSubsUptoCardSaid : Prop := Claim7.holds Tryz.pinned (.plain (OpenSpec.upto hierSubsSpec)) hierSubsUptoCard

/-- THE SECOND FORM's CARD OF 'squinchlaw06.HierGoesOn'. -/
def hierGoesOnUptoCard : Claim7 := { stood := { row := hierGoesOnUptoRow, standIns := [], harness := (true, "f2098e8517041d123d947ef8ab020dba909bc84ffa19994fbc628841a7ced9ca"), looks := false }, kinds := [], alts := [], laidByText := true, laidKinds := [.data, .data, .data, .pinned], laidTests := true, laidLooks := .later }
def HierGoesOnUptoCardSaid : Prop := Claim7.holds Tryz.pinned (.plain (OpenSpec.upto hierGoesOnSpec)) hierGoesOnUptoCard

/-- THE SECOND FORM's CARD OF 'squinchlaw06.HierMembers'. -/
def hierMembersUptoCard : Claim7 := { stood := { row := hierMembersUptoRow, standIns := [], harness := (true, "f2098e8517041d123d947ef8ab020dba909bc84ffa19994fbc628841a7ced9ca"), looks := false }, kinds := [], alts := [], laidByText := true, laidKinds := [.data, .data, .data, .pinned], laidTests := true, laidLooks := .later }
def HierMembersUptoCardSaid : Prop := Claim7.holds Tryz.pinned (.plain (OpenSpec.upto hierMembersSpec)) hierMembersUptoCard

/-- THE SECOND FORM's CARD OF 'squinchlaw06.HierKeeps'. -/
def hierKeepsUptoCard : Claim7 := { stood := { row := hierKeepsUptoRow, standIns := [], harness := (true, "f2098e8517041d123d947ef8ab020dba909bc84ffa19994fbc628841a7ced9ca"), looks := false }, kinds := [], alts := [], laidByText := true, laidKinds := [.data, .data, .data, .pinned], laidTests := true, laidLooks := .later }
def HierKeepsUptoCardSaid : Prop := Claim7.holds Tryz.pinned (.plain (OpenSpec.upto hierKeepsSpec)) hierKeepsUptoCard

/-- THE SECOND FORM's CARD OF 'squinchlaw06.HierGiven'. -/
def hierGivenUptoCard : Claim7 := { stood := { row := hierGivenUptoRow, standIns := [], harness := (true, "f2098e8517041d123d947ef8ab020dba909bc84ffa19994fbc628841a7ced9ca"), looks := false }, kinds := [], alts := [], laidByText := true, laidKinds := [.data, .data, .data, .pinned], laidTests := true, laidLooks := .later }
def HierGivenUptoCardSaid : Prop := Claim7.holds Tryz.pinned (.plain (OpenSpec.upto hierGivenSpec)) hierGivenUptoCard

/-- THE SECOND FORM's CARD OF 'squinchlaw06.HierOrder'. -/
def hierOrderUptoCard : Claim7 := { stood := { row := hierOrderUptoRow, standIns := [], harness := (true, "f2098e8517041d123d947ef8ab020dba909bc84ffa19994fbc628841a7ced9ca"), looks := false }, kinds := [], alts := [], laidByText := true, laidKinds := [.data, .data, .data, .pinned], laidTests := true, laidLooks := .later }
def HierOrderUptoCardSaid : Prop := Claim7.holds Tryz.pinned (.plain (OpenSpec.upto hierOrderSpec)) hierOrderUptoCard

/-- THE SECOND FORM's CARD OF 'squinchlaw06.HierRoot'. -/
def hierRootUptoCard : Claim7 := { stood := { row := hierRootUptoRow, standIns := [], harness := (true, "f2098e8517041d123d947ef8ab020dba909bc84ffa19994fbc628841a7ced9ca"), looks := false }, kinds := [], alts := [], laidByText := true, laidKinds := [.data, .data, .data, .pinned], laidTests := true, laidLooks := .later }
def HierRootUptoCardSaid : Prop := Claim7.holds Tryz.pinned (.plain (OpenSpec.upto hierRootSpec)) hierRootUptoCard

/-- THE SECOND FORM's CARD OF 'squinchlaw06.HierOwners'. -/
def hierOwnersUptoCard : Claim7 := { stood := { row := hierOwnersUptoRow, standIns := [], harness := (true, "f2098e8517041d123d947ef8ab020dba909bc84ffa19994fbc628841a7ced9ca"), looks := false }, kinds := [], alts := [], laidByText := true, laidKinds := [.data, .data, .data, .pinned], laidTests := true, laidLooks := .later }
def HierOwnersUptoCardSaid : Prop := Claim7.holds Tryz.pinned (.plain (OpenSpec.upto hierOwnersSpec)) hierOwnersUptoCard
end Rows
end Go.Proofs.YtpincofjopmaaaaGreatDoor
