/-
  NARROWER THAN 'FOR EVERY INPUT', by the rows' own cells (each row's printed sentence says how): ClassSame: laid · ClassSigns: laid · HierMakes: laid · HierSubs: laid · HierGoesOn: laid · HierMembers: laid · HierKeeps: laid · HierGiven: laid · HierOrder: laid · HierRoot: laid · HierOwners: laid.
  DERIVED. THE GIVEN ROWS OF THIS SEAT. 11 by the template 'for every input the law returns true; each argument reads behind the call as it read before'; 0 by the template 'total and deterministic' (their statements: YtpincofjopmaaaaGreatDoorTotals.lean).
  GIVEN WITH THE SEED: the statements are not yours to turn. If you find one false, say at which input.
  Laid BY PROGRAM, IN A SANDBOX (cutbox-rows.mjs): the forced cells as the released guide's own fill.sh prints them over the translation d6611ebf23c66467… (all of the seat's roots in one cut). By AI agents, Wed Nov 11 2026. No macro, syntax, notation, axiom, sorry.
-/
import Derived.Test.YtpincofjopmaaaaGreatDoorChecked
import GoSem.PinnedTables
import GoSem.Claim
import GoSem.ClaimJoined
import GoSem.ClaimMapViews
import Derived.JoinedTies
import Derived.KernelRfl
namespace Go.Proofs.YtpincofjopmaaaaGreatDoor
/- THE CELL 'sum', in the pinned program and in every row, IS THE sha256 OF THE DUMP (.gsa) THAT YtpincofjopmaaaaGreatDoorProg.lean LOADS. Nothing in Lean hashes anything: it is a label: what it is worth is what the hold of that sum in a sandbox is worth. -/
noncomputable def Tryz.pinned : Pinned := { name := "ytpincofjopmaaaagreatdoor", sum := "d6611ebf23c664676431df6256433d7c7e016746e432022ccd70796e98f0c242", checked := Tryz.checked }
namespace Rows
def none {H : Type} : Left H := { results := [], args := [] }

/- WHAT THE LISTED PACKAGE-LEVEL VARIABLES READ AS WHEN THE CALL BEGINS. Each datum BY PROGRAM (the guide's laid-datum.mjs) off the statement by which the dump's own 'gosem.cut.vars' lays the variable. In a bare row this is a premise. The card (YtpincofjopmaaaaGreatDoorCards.lean) ties it to the program's text. -/
def laid_unicode_utf8_acceptRanges {H : Type} : DataW H := .agg [.agg [.lit (.int .u8 128), .lit (.int .u8 191)], .agg [.lit (.int .u8 160), .lit (.int .u8 191)], .agg [.lit (.int .u8 128), .lit (.int .u8 159)], .agg [.lit (.int .u8 144), .lit (.int .u8 191)], .agg [.lit (.int .u8 128), .lit (.int .u8 143)], .agg [.lit (.int .u8 0), .lit (.int .u8 0)], .agg [.lit (.int .u8 0), .lit (.int .u8 0)], .agg [.lit (.int .u8 0), .lit (.int .u8 0)], .agg [.lit (.int .u8 0), .lit (.int .u8 0)], .agg [.lit (.int .u8 0), .lit (.int .u8 0)], .agg [.lit (.int .u8 0), .lit (.int .u8 0)], .agg [.lit (.int .u8 0), .lit (.int .u8 0)], .agg [.lit (.int .u8 0), .lit (.int .u8 0)], .agg [.lit (.int .u8 0), .lit (.int .u8 0)], .agg [.lit (.int .u8 0), .lit (.int .u8 0)], .agg [.lit (.int .u8 0), .lit (.int .u8 0)]]
def laid_squinch_code_operators {H : Type} : DataW H := .agg [.agg [.lit (.string [105, 110, 116]), .lit (.int .i64 1)], .agg [.lit (.string [116, 114, 117, 101]), .lit (.int .i64 0)], .agg [.lit (.string [102, 97, 108, 115, 101]), .lit (.int .i64 0)], .agg [.lit (.string [119, 111, 114, 100]), .lit (.int .i64 2)], .agg [.lit (.string [110, 117, 108, 108]), .lit (.int .i64 0)], .agg [.lit (.string [108, 111, 97, 100]), .lit (.int .i64 1)], .agg [.lit (.string [115, 116, 111, 114, 101]), .lit (.int .i64 1)], .agg [.lit (.string [112, 111, 112]), .lit (.int .i64 0)], .agg [.lit (.string [100, 117, 112]), .lit (.int .i64 0)], .agg [.lit (.string [115, 119, 97, 112]), .lit (.int .i64 0)], .agg [.lit (.string [97, 100, 100]), .lit (.int .i64 0)], .agg [.lit (.string [115, 117, 98]), .lit (.int .i64 0)], .agg [.lit (.string [109, 117, 108]), .lit (.int .i64 0)], .agg [.lit (.string [100, 105, 118]), .lit (.int .i64 0)], .agg [.lit (.string [114, 101, 109]), .lit (.int .i64 0)], .agg [.lit (.string [110, 101, 103]), .lit (.int .i64 0)], .agg [.lit (.string [108, 101, 115, 115]), .lit (.int .i64 0)], .agg [.lit (.string [115, 97, 109, 101]), .lit (.int .i64 0)], .agg [.lit (.string [110, 111, 116]), .lit (.int .i64 0)], .agg [.lit (.string [98, 111, 116, 104]), .lit (.int .i64 0)], .agg [.lit (.string [106, 111, 105, 110]), .lit (.int .i64 0)], .agg [.lit (.string [115, 105, 122, 101]), .lit (.int .i64 0)], .agg [.lit (.string [106, 117, 109, 112]), .lit (.int .i64 1)], .agg [.lit (.string [98, 114, 97, 110, 99, 104]), .lit (.int .i64 1)], .agg [.lit (.string [110, 101, 119]), .lit (.int .i64 3)], .agg [.lit (.string [103, 101, 116]), .lit (.int .i64 6)], .agg [.lit (.string [112, 117, 116]), .lit (.int .i64 6)], .agg [.lit (.string [99, 97, 108, 108]), .lit (.int .i64 6)], .agg [.lit (.string [97, 114, 114, 97, 121]), .lit (.int .i64 5)], .agg [.lit (.string [97, 116]), .lit (.int .i64 0)], .agg [.lit (.string [115, 101, 116]), .lit (.int .i64 0)], .agg [.lit (.string [105, 115]), .lit (.int .i64 4)], .agg [.lit (.string [99, 97, 115, 116]), .lit (.int .i64 4)], .agg [.lit (.string [114, 101, 116, 117, 114, 110]), .lit (.int .i64 0)], .agg [.lit (.string [116, 104, 114, 111, 119]), .lit (.int .i64 0)], .agg [.lit (.string [111, 117, 116]), .lit (.int .i64 0)], .agg [.lit (.string [101, 113, 117, 97, 108]), .lit (.int .i64 0)], .agg [.lit (.string [97, 110, 100]), .lit (.int .i64 0)], .agg [.lit (.string [111, 114]), .lit (.int .i64 0)], .agg [.lit (.string [120, 111, 114]), .lit (.int .i64 0)], .agg [.lit (.string [115, 104, 108]), .lit (.int .i64 0)], .agg [.lit (.string [115, 104, 114]), .lit (.int .i64 0)]]
/-- One of Go's own tables, pinned by name: the form's constant. -/
def laid_unicode_utf8_first : DataW Unit := Go.Pinned.utf8First
def laid_squinch_hier_faults {H : Type} : DataW H := .agg [.lit (.string [78, 117, 108, 108, 70, 97, 117, 108, 116]), .lit (.string [73, 110, 100, 101, 120, 70, 97, 117, 108, 116]), .lit (.string [67, 97, 115, 116, 70, 97, 117, 108, 116]), .lit (.string [90, 101, 114, 111, 70, 97, 117, 108, 116]), .lit (.string [82, 111, 111, 109, 70, 97, 117, 108, 116]), .lit (.string [67, 97, 108, 108, 70, 97, 117, 108, 116])]

/-- 'squinchlaw05.ClassSame': WHATEVER THE INPUT: true; the input reads as it did. -/
def classSameSpec : ChangeSpec := { name := "classSame", fn := fun _ => fun
  | [d1, d2] => { results := [.lit (.bool true)], args := [d1, d2] }
  | _ => none }
def classSameRow : OpenClaim := { program := "ytpincofjopmaaaagreatdoor", sum := "d6611ebf23c664676431df6256433d7c7e016746e432022ccd70796e98f0c242", func := "squinch/squinchlaw05.ClassSame", spec := "classSame", inPlace := ["internal/bytealg.IndexByteString", "internal/bytealg.IndexString", "internal/abi.NoEscape", "internal/bytealg.MakeNoZero"], unfollowed := true, recurses := true, named := ["squinch/code.operators", "unicode/utf8.first", "unicode/utf8.acceptRanges", "internal/bytealg.MaxLen"], apart := false, laid := [("unicode/utf8.acceptRanges", laid_unicode_utf8_acceptRanges), ("squinch/code.operators", laid_squinch_code_operators), ("unicode/utf8.first", laid_unicode_utf8_first)] }
def ClassSameSaid : Prop := classSameRow.holds Tryz.pinned (OpenSpec.ofChange classSameSpec)

/-- ITS FALSE NEIGHBOUR: 'it returns false'. Refute it at one input. -/
def classSameWrong : ChangeSpec := { name := "classSame", fn := fun _ => fun
  | [d1, d2] => { results := [.lit (.bool false)], args := [d1, d2] }
  | _ => none }
def ClassSameWrongFalsely : Prop := classSameRow.holds Tryz.pinned (OpenSpec.ofChange classSameWrong)

/-- 'squinchlaw05.ClassSigns': WHATEVER THE INPUT: true; the input reads as it did. -/
def classSignsSpec : ChangeSpec := { name := "classSigns", fn := fun _ => fun
  | [d1, d2] => { results := [.lit (.bool true)], args := [d1, d2] }
  | _ => none }
def classSignsRow : OpenClaim := { program := "ytpincofjopmaaaagreatdoor", sum := "d6611ebf23c664676431df6256433d7c7e016746e432022ccd70796e98f0c242", func := "squinch/squinchlaw05.ClassSigns", spec := "classSigns", inPlace := ["internal/bytealg.IndexByteString", "internal/bytealg.IndexString", "internal/abi.NoEscape", "internal/bytealg.MakeNoZero"], unfollowed := true, recurses := true, named := ["squinch/code.operators", "unicode/utf8.first", "unicode/utf8.acceptRanges", "internal/bytealg.MaxLen"], apart := false, laid := [("unicode/utf8.acceptRanges", laid_unicode_utf8_acceptRanges), ("squinch/code.operators", laid_squinch_code_operators), ("unicode/utf8.first", laid_unicode_utf8_first)] }
def ClassSignsSaid : Prop := classSignsRow.holds Tryz.pinned (OpenSpec.ofChange classSignsSpec)

/-- ITS FALSE NEIGHBOUR: 'it returns false'. Refute it at one input. -/
def classSignsWrong : ChangeSpec := { name := "classSigns", fn := fun _ => fun
  | [d1, d2] => { results := [.lit (.bool false)], args := [d1, d2] }
  | _ => none }
def ClassSignsWrongFalsely : Prop := classSignsRow.holds Tryz.pinned (OpenSpec.ofChange classSignsWrong)

/-- 'squinchlaw06.HierMakes': WHATEVER THE INPUT: true; the input reads as it did. -/
def hierMakesSpec : ChangeSpec := { name := "hierMakes", fn := fun _ => fun
  | [d] => { results := [.lit (.bool true)], args := [d] }
  | _ => none }
def hierMakesRow : OpenClaim := { program := "ytpincofjopmaaaagreatdoor", sum := "d6611ebf23c664676431df6256433d7c7e016746e432022ccd70796e98f0c242", func := "squinch/squinchlaw06.HierMakes", spec := "hierMakes", inPlace := ["internal/bytealg.IndexByteString", "internal/bytealg.IndexString", "internal/abi.NoEscape", "internal/bytealg.MakeNoZero"], unfollowed := true, recurses := true, named := ["squinch/hier.faults", "squinch/code.operators", "unicode/utf8.first", "unicode/utf8.acceptRanges", "internal/bytealg.MaxLen"], apart := false, laid := [("unicode/utf8.acceptRanges", laid_unicode_utf8_acceptRanges), ("squinch/code.operators", laid_squinch_code_operators), ("squinch/hier.faults", laid_squinch_hier_faults), ("unicode/utf8.first", laid_unicode_utf8_first)] }
def HierMakesSaid : Prop := hierMakesRow.holds Tryz.pinned (OpenSpec.ofChange hierMakesSpec)

/-- ITS FALSE NEIGHBOUR: 'it returns false'. Refute it at one input. -/
def hierMakesWrong : ChangeSpec := { name := "hierMakes", fn := fun _ => fun
  | [d] => { results := [.lit (.bool false)], args := [d] }
  | _ => none }
def HierMakesWrongFalsely : Prop := hierMakesRow.holds Tryz.pinned (OpenSpec.ofChange hierMakesWrong)

/-- 'squinchlaw06.HierSubs': WHATEVER THE INPUT: true; the input reads as it did. -/
def hierSubsSpec : ChangeSpec := { name := "hierSubs", fn := fun _ => fun
  | [d1, d2, d3] => { results := [.lit (.bool true)], args := [d1, d2, d3] }
  | _ => none }
def hierSubsRow : OpenClaim := { program := "ytpincofjopmaaaagreatdoor", sum := "d6611ebf23c664676431df6256433d7c7e016746e432022ccd70796e98f0c242", func := "squinch/squinchlaw06.HierSubs", spec := "hierSubs", inPlace := ["internal/bytealg.IndexByteString", "internal/bytealg.IndexString", "internal/abi.NoEscape", "internal/bytealg.MakeNoZero"], unfollowed := true, recurses := true, named := ["squinch/hier.faults", "squinch/code.operators", "unicode/utf8.first", "unicode/utf8.acceptRanges", "internal/bytealg.MaxLen"], apart := false, laid := [("unicode/utf8.acceptRanges", laid_unicode_utf8_acceptRanges), ("squinch/code.operators", laid_squinch_code_operators), ("squinch/hier.faults", laid_squinch_hier_faults), ("unicode/utf8.first", laid_unicode_utf8_first)] }
def HierSubsSaid : Prop := hierSubsRow.holds Tryz.pinned (OpenSpec.ofChange hierSubsSpec)

/-- ITS FALSE NEIGHBOUR: 'it returns false'. Refute it at one input. -/
def hierSubsWrong : ChangeSpec := { name := "hierSubs", fn := fun _ => fun
  | [d1, d2, d3] => { results := [.lit (.bool false)], args := [d1, d2, d3] }
  | _ => none }
def HierSubsWrongFalsely : Prop := hierSubsRow.holds Tryz.pinned (OpenSpec.ofChange hierSubsWrong)

/-- 'squinchlaw06.HierGoesOn': WHATEVER THE INPUT: true; the input reads as it did. -/
def hierGoesOnSpec : ChangeSpec := { name := "hierGoesOn", fn := fun _ => fun
  | [d1, d2] => { results := [.lit (.bool true)], args := [d1, d2] }
  | _ => none }
def hierGoesOnRow : OpenClaim := { program := "ytpincofjopmaaaagreatdoor", sum := "d6611ebf23c664676431df6256433d7c7e016746e432022ccd70796e98f0c242", func := "squinch/squinchlaw06.HierGoesOn", spec := "hierGoesOn", inPlace := ["internal/bytealg.IndexByteString", "internal/bytealg.IndexString", "internal/abi.NoEscape", "internal/bytealg.MakeNoZero"], unfollowed := true, recurses := true, named := ["squinch/hier.faults", "squinch/code.operators", "unicode/utf8.first", "unicode/utf8.acceptRanges", "internal/bytealg.MaxLen"], apart := false, laid := [("unicode/utf8.acceptRanges", laid_unicode_utf8_acceptRanges), ("squinch/code.operators", laid_squinch_code_operators), ("squinch/hier.faults", laid_squinch_hier_faults), ("unicode/utf8.first", laid_unicode_utf8_first)] }
def HierGoesOnSaid : Prop := hierGoesOnRow.holds Tryz.pinned (OpenSpec.ofChange hierGoesOnSpec)

/-- ITS FALSE NEIGHBOUR: 'it returns false'. Refute it at one input. -/
def hierGoesOnWrong : ChangeSpec := { name := "hierGoesOn", fn := fun _ => fun
  | [d1, d2] => { results := [.lit (.bool false)], args := [d1, d2] }
  | _ => none }
def HierGoesOnWrongFalsely : Prop := hierGoesOnRow.holds Tryz.pinned (OpenSpec.ofChange hierGoesOnWrong)

/-- 'squinchlaw06.HierMembers': WHATEVER THE INPUT: true; the input reads as it did. -/
def hierMembersSpec : ChangeSpec := { name := "hierMembers", fn := fun _ => fun
  | [d1, d2, d3] => { results := [.lit (.bool true)], args := [d1, d2, d3] }
  | _ => none }
def hierMembersRow : OpenClaim := { program := "ytpincofjopmaaaagreatdoor", sum := "d6611ebf23c664676431df6256433d7c7e016746e432022ccd70796e98f0c242", func := "squinch/squinchlaw06.HierMembers", spec := "hierMembers", inPlace := ["internal/bytealg.IndexByteString", "internal/bytealg.IndexString", "internal/abi.NoEscape", "internal/bytealg.MakeNoZero"], unfollowed := true, recurses := true, named := ["squinch/hier.faults", "squinch/code.operators", "unicode/utf8.first", "unicode/utf8.acceptRanges", "internal/bytealg.MaxLen"], apart := false, laid := [("unicode/utf8.acceptRanges", laid_unicode_utf8_acceptRanges), ("squinch/code.operators", laid_squinch_code_operators), ("squinch/hier.faults", laid_squinch_hier_faults), ("unicode/utf8.first", laid_unicode_utf8_first)] }
def HierMembersSaid : Prop := hierMembersRow.holds Tryz.pinned (OpenSpec.ofChange hierMembersSpec)

/-- ITS FALSE NEIGHBOUR: 'it returns false'. Refute it at one input. -/
def hierMembersWrong : ChangeSpec := { name := "hierMembers", fn := fun _ => fun
  | [d1, d2, d3] => { results := [.lit (.bool false)], args := [d1, d2, d3] }
  | _ => none }
def HierMembersWrongFalsely : Prop := hierMembersRow.holds Tryz.pinned (OpenSpec.ofChange hierMembersWrong)

/-- 'squinchlaw06.HierKeeps': WHATEVER THE INPUT: true; the input reads as it did. -/
def hierKeepsSpec : ChangeSpec := { name := "hierKeeps", fn := fun _ => fun
  | [d1, d2, d3] => { results := [.lit (.bool true)], args := [d1, d2, d3] }
  | _ => none }
def hierKeepsRow : OpenClaim := { program := "ytpincofjopmaaaagreatdoor", sum := "d6611ebf23c664676431df6256433d7c7e016746e432022ccd70796e98f0c242", func := "squinch/squinchlaw06.HierKeeps", spec := "hierKeeps", inPlace := ["internal/bytealg.IndexByteString", "internal/bytealg.IndexString", "internal/abi.NoEscape", "internal/bytealg.MakeNoZero"], unfollowed := true, recurses := true, named := ["squinch/hier.faults", "squinch/code.operators", "unicode/utf8.first", "unicode/utf8.acceptRanges", "internal/bytealg.MaxLen"], apart := false, laid := [("unicode/utf8.acceptRanges", laid_unicode_utf8_acceptRanges), ("squinch/code.operators", laid_squinch_code_operators), ("squinch/hier.faults", laid_squinch_hier_faults), ("unicode/utf8.first", laid_unicode_utf8_first)] }
def HierKeepsSaid : Prop := hierKeepsRow.holds Tryz.pinned (OpenSpec.ofChange hierKeepsSpec)

/-- ITS FALSE NEIGHBOUR: 'it returns false'. Refute it at one input. -/
def hierKeepsWrong : ChangeSpec := { name := "hierKeeps", fn := fun _ => fun
  | [d1, d2, d3] => { results := [.lit (.bool false)], args := [d1, d2, d3] }
  | _ => none }
def HierKeepsWrongFalsely : Prop := hierKeepsRow.holds Tryz.pinned (OpenSpec.ofChange hierKeepsWrong)

/-- 'squinchlaw06.HierGiven': WHATEVER THE INPUT: true; the input reads as it did. -/
def hierGivenSpec : ChangeSpec := { name := "hierGiven", fn := fun _ => fun
  | [d] => { results := [.lit (.bool true)], args := [d] }
  | _ => none }
def hierGivenRow : OpenClaim := { program := "ytpincofjopmaaaagreatdoor", sum := "d6611ebf23c664676431df6256433d7c7e016746e432022ccd70796e98f0c242", func := "squinch/squinchlaw06.HierGiven", spec := "hierGiven", inPlace := ["internal/bytealg.IndexByteString", "internal/bytealg.IndexString", "internal/abi.NoEscape", "internal/bytealg.MakeNoZero"], unfollowed := true, recurses := true, named := ["squinch/hier.faults", "squinch/code.operators", "unicode/utf8.first", "unicode/utf8.acceptRanges", "internal/bytealg.MaxLen"], apart := false, laid := [("unicode/utf8.acceptRanges", laid_unicode_utf8_acceptRanges), ("squinch/code.operators", laid_squinch_code_operators), ("squinch/hier.faults", laid_squinch_hier_faults), ("unicode/utf8.first", laid_unicode_utf8_first)] }
def HierGivenSaid : Prop := hierGivenRow.holds Tryz.pinned (OpenSpec.ofChange hierGivenSpec)

/-- ITS FALSE NEIGHBOUR: 'it returns false'. Refute it at one input. -/
def hierGivenWrong : ChangeSpec := { name := "hierGiven", fn := fun _ => fun
  | [d] => { results := [.lit (.bool false)], args := [d] }
  | _ => none }
def HierGivenWrongFalsely : Prop := hierGivenRow.holds Tryz.pinned (OpenSpec.ofChange hierGivenWrong)

/-- 'squinchlaw06.HierOrder': WHATEVER THE INPUT: true; the input reads as it did. -/
def hierOrderSpec : ChangeSpec := { name := "hierOrder", fn := fun _ => fun
  | [d1, d2] => { results := [.lit (.bool true)], args := [d1, d2] }
  | _ => none }
def hierOrderRow : OpenClaim := { program := "ytpincofjopmaaaagreatdoor", sum := "d6611ebf23c664676431df6256433d7c7e016746e432022ccd70796e98f0c242", func := "squinch/squinchlaw06.HierOrder", spec := "hierOrder", inPlace := ["internal/bytealg.IndexByteString", "internal/bytealg.IndexString", "internal/abi.NoEscape", "internal/bytealg.MakeNoZero"], unfollowed := true, recurses := true, named := ["squinch/hier.faults", "squinch/code.operators", "unicode/utf8.first", "unicode/utf8.acceptRanges", "internal/bytealg.MaxLen"], apart := false, laid := [("unicode/utf8.acceptRanges", laid_unicode_utf8_acceptRanges), ("squinch/code.operators", laid_squinch_code_operators), ("squinch/hier.faults", laid_squinch_hier_faults), ("unicode/utf8.first", laid_unicode_utf8_first)] }
def HierOrderSaid : Prop := hierOrderRow.holds Tryz.pinned (OpenSpec.ofChange hierOrderSpec)

/-- ITS FALSE NEIGHBOUR: 'it returns false'. Refute it at one input. -/
def hierOrderWrong : ChangeSpec := { name := "hierOrder", fn := fun _ => fun
  | [d1, d2] => { results := [.lit (.bool false)], args := [d1, d2] }
  | _ => none }
def HierOrderWrongFalsely : Prop := hierOrderRow.holds Tryz.pinned (OpenSpec.ofChange hierOrderWrong)

/-- 'squinchlaw06.HierRoot': WHATEVER THE INPUT: true; the input reads as it did. -/
def hierRootSpec : ChangeSpec := { name := "hierRoot", fn := fun _ => fun
  | [d] => { results := [.lit (.bool true)], args := [d] }
  | _ => none }
def hierRootRow : OpenClaim := { program := "ytpincofjopmaaaagreatdoor", sum := "d6611ebf23c664676431df6256433d7c7e016746e432022ccd70796e98f0c242", func := "squinch/squinchlaw06.HierRoot", spec := "hierRoot", inPlace := ["internal/bytealg.IndexByteString", "internal/bytealg.IndexString", "internal/abi.NoEscape", "internal/bytealg.MakeNoZero"], unfollowed := true, recurses := true, named := ["squinch/hier.faults", "squinch/code.operators", "unicode/utf8.first", "unicode/utf8.acceptRanges", "internal/bytealg.MaxLen"], apart := false, laid := [("unicode/utf8.acceptRanges", laid_unicode_utf8_acceptRanges), ("squinch/code.operators", laid_squinch_code_operators), ("squinch/hier.faults", laid_squinch_hier_faults), ("unicode/utf8.first", laid_unicode_utf8_first)] }
def HierRootSaid : Prop := hierRootRow.holds Tryz.pinned (OpenSpec.ofChange hierRootSpec)

/-- ITS FALSE NEIGHBOUR: 'it returns false'. Refute it at one input. -/
def hierRootWrong : ChangeSpec := { name := "hierRoot", fn := fun _ => fun
  | [d] => { results := [.lit (.bool false)], args := [d] }
  | _ => none }
def HierRootWrongFalsely : Prop := hierRootRow.holds Tryz.pinned (OpenSpec.ofChange hierRootWrong)

/-- 'squinchlaw06.HierOwners': WHATEVER THE INPUT: true; the input reads as it did. -/
def hierOwnersSpec : ChangeSpec := { name := "hierOwners", fn := fun _ => fun
  | [d1, d2] => { results := [.lit (.bool true)], args := [d1, d2] }
  | _ => none }
def hierOwnersRow : OpenClaim := { program := "ytpincofjopmaaaagreatdoor", sum := "d6611ebf23c664676431df6256433d7c7e016746e432022ccd70796e98f0c242", func := "squinch/squinchlaw06.HierOwners", spec := "hierOwners", inPlace := ["internal/bytealg.IndexByteString", "internal/bytealg.IndexString", "internal/abi.NoEscape", "internal/bytealg.MakeNoZero"], unfollowed := true, recurses := true, named := ["squinch/hier.faults", "squinch/code.operators", "unicode/utf8.first", "unicode/utf8.acceptRanges", "internal/bytealg.MaxLen"], apart := false, laid := [("unicode/utf8.acceptRanges", laid_unicode_utf8_acceptRanges), ("squinch/code.operators", laid_squinch_code_operators), ("squinch/hier.faults", laid_squinch_hier_faults), ("unicode/utf8.first", laid_unicode_utf8_first)] }
def HierOwnersSaid : Prop := hierOwnersRow.holds Tryz.pinned (OpenSpec.ofChange hierOwnersSpec)

/-- ITS FALSE NEIGHBOUR: 'it returns false'. Refute it at one input. -/
def hierOwnersWrong : ChangeSpec := { name := "hierOwners", fn := fun _ => fun
  | [d1, d2] => { results := [.lit (.bool false)], args := [d1, d2] }
  | _ => none }
def HierOwnersWrongFalsely : Prop := hierOwnersRow.holds Tryz.pinned (OpenSpec.ofChange hierOwnersWrong)

/- THE SECOND FORM. 'bulk': how many values and letters a reading holds, each counted each time it is reached (what is shared counts as often as it is met; a slice's spare places count too). A statement '..UptoSaid' is the law's where the arguments, and the package variables that the reading takes, are together of bulk at most 1048576: NARROWER than '..Said'. Prove '..Said' where nothing that the law and all that it calls make is longer than what came in: it says more and counts as full. Else prove '..UptoSaid'. A law counts once. -/
mutual
def uptoBulk {H : Type} : DataW H → Nat
  | .lit (.string bytes) => bytes.length + 1
  | .lit _ => 1
  | .nil => 1
  | .ptr d => uptoBulk d + 1
  | .slice elems spare => uptoBulkAll elems + uptoBulkAll spare + 1
  | .agg parts => uptoBulkAll parts + 1
  | .iface _ d => uptoBulk d + 1
  | .map entries => uptoBulkEntries entries + 1
  | .held _ => 1
def uptoBulkAll {H : Type} : List (DataW H) → Nat
  | [] => 0
  | d :: r => uptoBulk d + uptoBulkAll r
def uptoBulkEntries {H : Type} : List (Lit × DataW H) → Nat
  | [] => 0
  | x :: r => uptoBulkEntry x + uptoBulkEntries r
def uptoBulkEntry {H : Type} : Lit × DataW H → Nat
  | (.string bytes, d) => bytes.length + uptoBulk d + 1
  | (_, d) => uptoBulk d + 1
 end
def uptoSmall : (H : Type) → List (DataW H) → Bool := fun _ ds => decide (uptoBulkAll ds ≤ 1048576)
def OpenSpec.upto (s : _root_.Go.ChangeSpec) : _root_.Go.OpenSpec := { _root_.Go.OpenSpec.ofChange s with cond := some uptoSmall }

/-- 'squinchlaw05.ClassSame', WHERE WHAT IT READS IS OF BULK AT MOST 1048576: true; the input reads as it did. -/
def classSameUptoRow : OpenClaim := { program := "ytpincofjopmaaaagreatdoor", sum := "d6611ebf23c664676431df6256433d7c7e016746e432022ccd70796e98f0c242", func := "squinch/squinchlaw05.ClassSame", spec := "classSame", inPlace := ["internal/bytealg.IndexByteString", "internal/bytealg.IndexString", "internal/abi.NoEscape", "internal/bytealg.MakeNoZero"], unfollowed := true, recurses := true, named := ["squinch/code.operators", "unicode/utf8.first", "unicode/utf8.acceptRanges", "internal/bytealg.MaxLen"], apart := false, laid := [("unicode/utf8.acceptRanges", laid_unicode_utf8_acceptRanges), ("squinch/code.operators", laid_squinch_code_operators), ("unicode/utf8.first", laid_unicode_utf8_first)], narrowed := true }
def ClassSameUptoSaid : Prop := classSameUptoRow.holds Tryz.pinned (OpenSpec.upto classSameSpec)

/-- 'squinchlaw05.ClassSigns', WHERE WHAT IT READS IS OF BULK AT MOST 1048576: true; the input reads as it did. -/
def classSignsUptoRow : OpenClaim := { program := "ytpincofjopmaaaagreatdoor", sum := "d6611ebf23c664676431df6256433d7c7e016746e432022ccd70796e98f0c242", func := "squinch/squinchlaw05.ClassSigns", spec := "classSigns", inPlace := ["internal/bytealg.IndexByteString", "internal/bytealg.IndexString", "internal/abi.NoEscape", "internal/bytealg.MakeNoZero"], unfollowed := true, recurses := true, named := ["squinch/code.operators", "unicode/utf8.first", "unicode/utf8.acceptRanges", "internal/bytealg.MaxLen"], apart := false, laid := [("unicode/utf8.acceptRanges", laid_unicode_utf8_acceptRanges), ("squinch/code.operators", laid_squinch_code_operators), ("unicode/utf8.first", laid_unicode_utf8_first)], narrowed := true }
def ClassSignsUptoSaid : Prop := classSignsUptoRow.holds Tryz.pinned (OpenSpec.upto classSignsSpec)

/-- 'squinchlaw06.HierMakes', WHERE WHAT IT READS IS OF BULK AT MOST 1048576: true; the input reads as it did. -/
def hierMakesUptoRow : OpenClaim := { program := "ytpincofjopmaaaagreatdoor", sum := "d6611ebf23c664676431df6256433d7c7e016746e432022ccd70796e98f0c242", func := "squinch/squinchlaw06.HierMakes", spec := "hierMakes", inPlace := ["internal/bytealg.IndexByteString", "internal/bytealg.IndexString", "internal/abi.NoEscape", "internal/bytealg.MakeNoZero"], unfollowed := true, recurses := true, named := ["squinch/hier.faults", "squinch/code.operators", "unicode/utf8.first", "unicode/utf8.acceptRanges", "internal/bytealg.MaxLen"], apart := false, laid := [("unicode/utf8.acceptRanges", laid_unicode_utf8_acceptRanges), ("squinch/code.operators", laid_squinch_code_operators), ("squinch/hier.faults", laid_squinch_hier_faults), ("unicode/utf8.first", laid_unicode_utf8_first)], narrowed := true }
def HierMakesUptoSaid : Prop := hierMakesUptoRow.holds Tryz.pinned (OpenSpec.upto hierMakesSpec)

/-- 'squinchlaw06.HierSubs', WHERE WHAT IT READS IS OF BULK AT MOST 1048576: true; the input reads as it did. -/
def hierSubsUptoRow : OpenClaim := { program := "ytpincofjopmaaaagreatdoor", sum := "d6611ebf23c664676431df6256433d7c7e016746e432022ccd70796e98f0c242", func := "squinch/squinchlaw06.HierSubs", spec := "hierSubs", inPlace := ["internal/bytealg.IndexByteString", "internal/bytealg.IndexString", "internal/abi.NoEscape", "internal/bytealg.MakeNoZero"], unfollowed := true, recurses := true, named := ["squinch/hier.faults", "squinch/code.operators", "unicode/utf8.first", "unicode/utf8.acceptRanges", "internal/bytealg.MaxLen"], apart := false, laid := [("unicode/utf8.acceptRanges", laid_unicode_utf8_acceptRanges), ("squinch/code.operators", laid_squinch_code_operators), ("squinch/hier.faults", laid_squinch_hier_faults), ("unicode/utf8.first", laid_unicode_utf8_first)], narrowed := true }
def HierSubsUptoSaid : Prop := hierSubsUptoRow.holds Tryz.pinned (OpenSpec.upto hierSubsSpec)

/-- 'squinchlaw06.HierGoesOn', WHERE WHAT IT READS IS OF BULK AT MOST 1048576: true; the input reads as it did. -/
def hierGoesOnUptoRow : OpenClaim := { program := "ytpincofjopmaaaagreatdoor", sum := "d6611ebf23c664676431df6256433d7c7e016746e432022ccd70796e98f0c242", func := "squinch/squinchlaw06.HierGoesOn", spec := "hierGoesOn", inPlace := ["internal/bytealg.IndexByteString", "internal/bytealg.IndexString", "internal/abi.NoEscape", "internal/bytealg.MakeNoZero"], unfollowed := true, recurses := true, named := ["squinch/hier.faults", "squinch/code.operators", "unicode/utf8.first", "unicode/utf8.acceptRanges", "internal/bytealg.MaxLen"], apart := false, laid := [("unicode/utf8.acceptRanges", laid_unicode_utf8_acceptRanges), ("squinch/code.operators", laid_squinch_code_operators), ("squinch/hier.faults", laid_squinch_hier_faults), ("unicode/utf8.first", laid_unicode_utf8_first)], narrowed := true }
def HierGoesOnUptoSaid : Prop := hierGoesOnUptoRow.holds Tryz.pinned (OpenSpec.upto hierGoesOnSpec)

/-- 'squinchlaw06.HierMembers', WHERE WHAT IT READS IS OF BULK AT MOST 1048576: true; the input reads as it did. -/
def hierMembersUptoRow : OpenClaim := { program := "ytpincofjopmaaaagreatdoor", sum := "d6611ebf23c664676431df6256433d7c7e016746e432022ccd70796e98f0c242", func := "squinch/squinchlaw06.HierMembers", spec := "hierMembers", inPlace := ["internal/bytealg.IndexByteString", "internal/bytealg.IndexString", "internal/abi.NoEscape", "internal/bytealg.MakeNoZero"], unfollowed := true, recurses := true, named := ["squinch/hier.faults", "squinch/code.operators", "unicode/utf8.first", "unicode/utf8.acceptRanges", "internal/bytealg.MaxLen"], apart := false, laid := [("unicode/utf8.acceptRanges", laid_unicode_utf8_acceptRanges), ("squinch/code.operators", laid_squinch_code_operators), ("squinch/hier.faults", laid_squinch_hier_faults), ("unicode/utf8.first", laid_unicode_utf8_first)], narrowed := true }
def HierMembersUptoSaid : Prop := hierMembersUptoRow.holds Tryz.pinned (OpenSpec.upto hierMembersSpec)

/-- 'squinchlaw06.HierKeeps', WHERE WHAT IT READS IS OF BULK AT MOST 1048576: true; the input reads as it did. -/
def hierKeepsUptoRow : OpenClaim := { program := "ytpincofjopmaaaagreatdoor", sum := "d6611ebf23c664676431df6256433d7c7e016746e432022ccd70796e98f0c242", func := "squinch/squinchlaw06.HierKeeps", spec := "hierKeeps", inPlace := ["internal/bytealg.IndexByteString", "internal/bytealg.IndexString", "internal/abi.NoEscape", "internal/bytealg.MakeNoZero"], unfollowed := true, recurses := true, named := ["squinch/hier.faults", "squinch/code.operators", "unicode/utf8.first", "unicode/utf8.acceptRanges", "internal/bytealg.MaxLen"], apart := false, laid := [("unicode/utf8.acceptRanges", laid_unicode_utf8_acceptRanges), ("squinch/code.operators", laid_squinch_code_operators), ("squinch/hier.faults", laid_squinch_hier_faults), ("unicode/utf8.first", laid_unicode_utf8_first)], narrowed := true }
def HierKeepsUptoSaid : Prop := hierKeepsUptoRow.holds Tryz.pinned (OpenSpec.upto hierKeepsSpec)

/-- 'squinchlaw06.HierGiven', WHERE WHAT IT READS IS OF BULK AT MOST 1048576: true; the input reads as it did. -/
def hierGivenUptoRow : OpenClaim := { program := "ytpincofjopmaaaagreatdoor", sum := "d6611ebf23c664676431df6256433d7c7e016746e432022ccd70796e98f0c242", func := "squinch/squinchlaw06.HierGiven", spec := "hierGiven", inPlace := ["internal/bytealg.IndexByteString", "internal/bytealg.IndexString", "internal/abi.NoEscape", "internal/bytealg.MakeNoZero"], unfollowed := true, recurses := true, named := ["squinch/hier.faults", "squinch/code.operators", "unicode/utf8.first", "unicode/utf8.acceptRanges", "internal/bytealg.MaxLen"], apart := false, laid := [("unicode/utf8.acceptRanges", laid_unicode_utf8_acceptRanges), ("squinch/code.operators", laid_squinch_code_operators), ("squinch/hier.faults", laid_squinch_hier_faults), ("unicode/utf8.first", laid_unicode_utf8_first)], narrowed := true }
def HierGivenUptoSaid : Prop := hierGivenUptoRow.holds Tryz.pinned (OpenSpec.upto hierGivenSpec)

/-- 'squinchlaw06.HierOrder', WHERE WHAT IT READS IS OF BULK AT MOST 1048576: true; the input reads as it did. -/
def hierOrderUptoRow : OpenClaim := { program := "ytpincofjopmaaaagreatdoor", sum := "d6611ebf23c664676431df6256433d7c7e016746e432022ccd70796e98f0c242", func := "squinch/squinchlaw06.HierOrder", spec := "hierOrder", inPlace := ["internal/bytealg.IndexByteString", "internal/bytealg.IndexString", "internal/abi.NoEscape", "internal/bytealg.MakeNoZero"], unfollowed := true, recurses := true, named := ["squinch/hier.faults", "squinch/code.operators", "unicode/utf8.first", "unicode/utf8.acceptRanges", "internal/bytealg.MaxLen"], apart := false, laid := [("unicode/utf8.acceptRanges", laid_unicode_utf8_acceptRanges), ("squinch/code.operators", laid_squinch_code_operators), ("squinch/hier.faults", laid_squinch_hier_faults), ("unicode/utf8.first", laid_unicode_utf8_first)], narrowed := true }
def HierOrderUptoSaid : Prop := hierOrderUptoRow.holds Tryz.pinned (OpenSpec.upto hierOrderSpec)

/-- 'squinchlaw06.HierRoot', WHERE WHAT IT READS IS OF BULK AT MOST 1048576: true; the input reads as it did. -/
def hierRootUptoRow : OpenClaim := { program := "ytpincofjopmaaaagreatdoor", sum := "d6611ebf23c664676431df6256433d7c7e016746e432022ccd70796e98f0c242", func := "squinch/squinchlaw06.HierRoot", spec := "hierRoot", inPlace := ["internal/bytealg.IndexByteString", "internal/bytealg.IndexString", "internal/abi.NoEscape", "internal/bytealg.MakeNoZero"], unfollowed := true, recurses := true, named := ["squinch/hier.faults", "squinch/code.operators", "unicode/utf8.first", "unicode/utf8.acceptRanges", "internal/bytealg.MaxLen"], apart := false, laid := [("unicode/utf8.acceptRanges", laid_unicode_utf8_acceptRanges), ("squinch/code.operators", laid_squinch_code_operators), ("squinch/hier.faults", laid_squinch_hier_faults), ("unicode/utf8.first", laid_unicode_utf8_first)], narrowed := true }
def HierRootUptoSaid : Prop := hierRootUptoRow.holds Tryz.pinned (OpenSpec.upto hierRootSpec)

/-- 'squinchlaw06.HierOwners', WHERE WHAT IT READS IS OF BULK AT MOST 1048576: true; the input reads as it did. -/
def hierOwnersUptoRow : OpenClaim := { program := "ytpincofjopmaaaagreatdoor", sum := "d6611ebf23c664676431df6256433d7c7e016746e432022ccd70796e98f0c242", func := "squinch/squinchlaw06.HierOwners", spec := "hierOwners", inPlace := ["internal/bytealg.IndexByteString", "internal/bytealg.IndexString", "internal/abi.NoEscape", "internal/bytealg.MakeNoZero"], unfollowed := true, recurses := true, named := ["squinch/hier.faults", "squinch/code.operators", "unicode/utf8.first", "unicode/utf8.acceptRanges", "internal/bytealg.MaxLen"], apart := false, laid := [("unicode/utf8.acceptRanges", laid_unicode_utf8_acceptRanges), ("squinch/code.operators", laid_squinch_code_operators), ("squinch/hier.faults", laid_squinch_hier_faults), ("unicode/utf8.first", laid_unicode_utf8_first)], narrowed := true }
def HierOwnersUptoSaid : Prop := hierOwnersUptoRow.holds Tryz.pinned (OpenSpec.upto hierOwnersSpec)

end Rows
end Go.Proofs.YtpincofjopmaaaaGreatDoor
