/-
  No cell of these rows narrows 'for every input' (looked for: loops, veiled, ifaces, maps, wideKeys, modest, calm, conditions, laid).
  DERIVED. THE GIVEN ROWS OF THIS SEAT. 6 by the template 'for every input the law returns true; each argument reads behind the call as it read before'; 0 by the template 'total and deterministic' (their statements: YthefgkllplodfaaTotals.lean).
  GIVEN WITH THE SEED: the statements are not yours to turn. If you find one false, say at which input.
  Laid BY PROGRAM, IN A SANDBOX (cutbox-rows.mjs): the forced cells as the released guide's own fill.sh prints them over the translation f4405ac4aad7665a… (all of the seat's roots in one cut). By AI agents, Wed Nov 11 2026. No macro, syntax, notation, axiom, sorry.
-/
import Derived.Test.YthefgkllplodfaaChecked
import GoSem.Claim
import GoSem.ClaimJoined
import GoSem.ClaimMapViews
import Derived.JoinedTies
import Derived.KernelRfl
namespace Go.Proofs.Ythefgkllplodfaa
/- THE CELL 'sum', in the pinned program and in every row, IS THE sha256 OF THE DUMP (.gsa) THAT YthefgkllplodfaaProg.lean LOADS. Nothing in Lean hashes anything: it is a label: what it is worth is what the hold of that sum in a sandbox is worth. -/
noncomputable def Try.pinned : Pinned := { name := "ythefgkllplodfaa", sum := "f4405ac4aad7665a672aa5221096cf15b680a60bc8962c553ace0323728edc60", checked := Try.checked }
namespace Rows
def none {H : Type} : Left H := { results := [], args := [] }

/-- 'squinchlaw03.KindRight': WHATEVER THE INPUT: true; the input reads as it did. -/
def kindRightSpec : ChangeSpec := { name := "kindRight", fn := fun _ => fun
  | [d] => { results := [.lit (.bool true)], args := [d] }
  | _ => none }
def kindRightRow : OpenClaim := { program := "ythefgkllplodfaa", sum := "f4405ac4aad7665a672aa5221096cf15b680a60bc8962c553ace0323728edc60", func := "squinch/squinchlaw03.KindRight", spec := "kindRight", inPlace := ["internal/bytealg.IndexByteString", "internal/bytealg.IndexString"], unfollowed := true, recurses := true, named := ["internal/bytealg.MaxLen"], apart := false }
def KindRightSaid : Prop := kindRightRow.holds Try.pinned (OpenSpec.ofChange kindRightSpec)

/-- ITS FALSE NEIGHBOUR: 'it returns false'. Refute it at one input. -/
def kindRightWrong : ChangeSpec := { name := "kindRight", fn := fun _ => fun
  | [d] => { results := [.lit (.bool false)], args := [d] }
  | _ => none }
def KindRightWrongFalsely : Prop := kindRightRow.holds Try.pinned (OpenSpec.ofChange kindRightWrong)

/-- 'squinchlaw03.KindElems': WHATEVER THE INPUT: true; the input reads as it did. -/
def kindElemsSpec : ChangeSpec := { name := "kindElems", fn := fun _ => fun
  | [d] => { results := [.lit (.bool true)], args := [d] }
  | _ => none }
def kindElemsRow : OpenClaim := { program := "ythefgkllplodfaa", sum := "f4405ac4aad7665a672aa5221096cf15b680a60bc8962c553ace0323728edc60", func := "squinch/squinchlaw03.KindElems", spec := "kindElems", inPlace := ["internal/bytealg.IndexByteString", "internal/bytealg.IndexString"], unfollowed := true, recurses := true, named := ["internal/bytealg.MaxLen"], apart := false }
def KindElemsSaid : Prop := kindElemsRow.holds Try.pinned (OpenSpec.ofChange kindElemsSpec)

/-- ITS FALSE NEIGHBOUR: 'it returns false'. Refute it at one input. -/
def kindElemsWrong : ChangeSpec := { name := "kindElems", fn := fun _ => fun
  | [d] => { results := [.lit (.bool false)], args := [d] }
  | _ => none }
def KindElemsWrongFalsely : Prop := kindElemsRow.holds Try.pinned (OpenSpec.ofChange kindElemsWrong)

/-- 'squinchlaw03.KindArrays': WHATEVER THE INPUT: true; the input reads as it did. -/
def kindArraysSpec : ChangeSpec := { name := "kindArrays", fn := fun _ => fun
  | [d] => { results := [.lit (.bool true)], args := [d] }
  | _ => none }
def kindArraysRow : OpenClaim := { program := "ythefgkllplodfaa", sum := "f4405ac4aad7665a672aa5221096cf15b680a60bc8962c553ace0323728edc60", func := "squinch/squinchlaw03.KindArrays", spec := "kindArrays", inPlace := ["internal/bytealg.IndexByteString", "internal/bytealg.IndexString"], unfollowed := true, recurses := true, named := ["internal/bytealg.MaxLen"], apart := false }
def KindArraysSaid : Prop := kindArraysRow.holds Try.pinned (OpenSpec.ofChange kindArraysSpec)

/-- ITS FALSE NEIGHBOUR: 'it returns false'. Refute it at one input. -/
def kindArraysWrong : ChangeSpec := { name := "kindArrays", fn := fun _ => fun
  | [d] => { results := [.lit (.bool false)], args := [d] }
  | _ => none }
def KindArraysWrongFalsely : Prop := kindArraysRow.holds Try.pinned (OpenSpec.ofChange kindArraysWrong)

/-- 'squinchlaw03.KindParts': WHATEVER THE INPUT: true; the input reads as it did. -/
def kindPartsSpec : ChangeSpec := { name := "kindParts", fn := fun _ => fun
  | [d] => { results := [.lit (.bool true)], args := [d] }
  | _ => none }
def kindPartsRow : OpenClaim := { program := "ythefgkllplodfaa", sum := "f4405ac4aad7665a672aa5221096cf15b680a60bc8962c553ace0323728edc60", func := "squinch/squinchlaw03.KindParts", spec := "kindParts", inPlace := ["internal/bytealg.IndexByteString", "internal/bytealg.IndexString"], unfollowed := true, recurses := true, named := ["internal/bytealg.MaxLen"], apart := false }
def KindPartsSaid : Prop := kindPartsRow.holds Try.pinned (OpenSpec.ofChange kindPartsSpec)

/-- ITS FALSE NEIGHBOUR: 'it returns false'. Refute it at one input. -/
def kindPartsWrong : ChangeSpec := { name := "kindParts", fn := fun _ => fun
  | [d] => { results := [.lit (.bool false)], args := [d] }
  | _ => none }
def KindPartsWrongFalsely : Prop := kindPartsRow.holds Try.pinned (OpenSpec.ofChange kindPartsWrong)

/-- 'squinchlaw03.KindNames': WHATEVER THE INPUT: true; the input reads as it did. -/
def kindNamesSpec : ChangeSpec := { name := "kindNames", fn := fun _ => fun
  | [d] => { results := [.lit (.bool true)], args := [d] }
  | _ => none }
def kindNamesRow : OpenClaim := { program := "ythefgkllplodfaa", sum := "f4405ac4aad7665a672aa5221096cf15b680a60bc8962c553ace0323728edc60", func := "squinch/squinchlaw03.KindNames", spec := "kindNames", inPlace := ["internal/bytealg.IndexByteString", "internal/bytealg.IndexString"], unfollowed := true, recurses := true, named := ["internal/bytealg.MaxLen"], apart := false }
def KindNamesSaid : Prop := kindNamesRow.holds Try.pinned (OpenSpec.ofChange kindNamesSpec)

/-- ITS FALSE NEIGHBOUR: 'it returns false'. Refute it at one input. -/
def kindNamesWrong : ChangeSpec := { name := "kindNames", fn := fun _ => fun
  | [d] => { results := [.lit (.bool false)], args := [d] }
  | _ => none }
def KindNamesWrongFalsely : Prop := kindNamesRow.holds Try.pinned (OpenSpec.ofChange kindNamesWrong)

/-- 'squinchlaw03.KindUnwraps': WHATEVER THE INPUT: true; the input reads as it did. -/
def kindUnwrapsSpec : ChangeSpec := { name := "kindUnwraps", fn := fun _ => fun
  | [d] => { results := [.lit (.bool true)], args := [d] }
  | _ => none }
def kindUnwrapsRow : OpenClaim := { program := "ythefgkllplodfaa", sum := "f4405ac4aad7665a672aa5221096cf15b680a60bc8962c553ace0323728edc60", func := "squinch/squinchlaw03.KindUnwraps", spec := "kindUnwraps", inPlace := ["internal/bytealg.IndexByteString", "internal/bytealg.IndexString"], unfollowed := true, recurses := true, named := ["internal/bytealg.MaxLen"], apart := false }
def KindUnwrapsSaid : Prop := kindUnwrapsRow.holds Try.pinned (OpenSpec.ofChange kindUnwrapsSpec)

/-- ITS FALSE NEIGHBOUR: 'it returns false'. Refute it at one input. -/
def kindUnwrapsWrong : ChangeSpec := { name := "kindUnwraps", fn := fun _ => fun
  | [d] => { results := [.lit (.bool false)], args := [d] }
  | _ => none }
def KindUnwrapsWrongFalsely : Prop := kindUnwrapsRow.holds Try.pinned (OpenSpec.ofChange kindUnwrapsWrong)

/- THE SECOND FORM. 'bulk': how many values and letters a reading holds, each counted each time it is reached (what is shared counts as often as it is met; a slice's spare places count too). A statement '..UptoSaid' is the law's where the arguments, and the package variables that the reading takes, are together of bulk at most 1048576: NARROWER than '..Said'. Prove '..Said' where nothing that the law and all that it calls make is longer than what came in: it says more and counts as full. Else prove '..UptoSaid'. A law counts once. -/
mutual
def uptoBulk {H : Type} : DataW H → Nat
  | .lit (.string bytes) => bytes.length + 1
  | .lit _ => 1
  | .nil => 1
  | .ptr d => uptoBulk d + 1
  | .slice elems spare => uptoBulkAll elems + uptoBulkAll spare + 1
  | .agg parts => uptoBulkAll parts + 1
  | .iface _ d => uptoBulk d + 1
  | .map entries => uptoBulkEntries entries + 1
  | .held _ => 1
def uptoBulkAll {H : Type} : List (DataW H) → Nat
  | [] => 0
  | d :: r => uptoBulk d + uptoBulkAll r
def uptoBulkEntries {H : Type} : List (Lit × DataW H) → Nat
  | [] => 0
  | x :: r => uptoBulkEntry x + uptoBulkEntries r
def uptoBulkEntry {H : Type} : Lit × DataW H → Nat
  | (.string bytes, d) => bytes.length + uptoBulk d + 1
  | (_, d) => uptoBulk d + 1
 end
def uptoSmall : (H : Type) → List (DataW H) → Bool := fun _ ds => decide (uptoBulkAll ds ≤ 1048576)
def OpenSpec.upto (s : _root_.Go.ChangeSpec) : _root_.Go.OpenSpec := { _root_.Go.OpenSpec.ofChange s with cond := some uptoSmall }

/-- 'squinchlaw03.KindRight', WHERE WHAT IT READS IS OF BULK AT MOST 1048576: true; the input reads as it did. -/
def kindRightUptoRow : OpenClaim := { program := "ythefgkllplodfaa", sum := "f4405ac4aad7665a672aa5221096cf15b680a60bc8962c553ace0323728edc60", func := "squinch/squinchlaw03.KindRight", spec := "kindRight", inPlace := ["internal/bytealg.IndexByteString", "internal/bytealg.IndexString"], unfollowed := true, recurses := true, named := ["internal/bytealg.MaxLen"], apart := false, narrowed := true }
def KindRightUptoSaid : Prop := kindRightUptoRow.holds Try.pinned (OpenSpec.upto kindRightSpec)

/-- 'squinchlaw03.KindElems', WHERE WHAT IT READS IS OF BULK AT MOST 1048576: true; the input reads as it did. -/
def kindElemsUptoRow : OpenClaim := { program := "ythefgkllplodfaa", sum := "f4405ac4aad7665a672aa5221096cf15b680a60bc8962c553ace0323728edc60", func := "squinch/squinchlaw03.KindElems", spec := "kindElems", inPlace := ["internal/bytealg.IndexByteString", "internal/bytealg.IndexString"], unfollowed := true, recurses := true, named := ["internal/bytealg.MaxLen"], apart := false, narrowed := true }
def KindElemsUptoSaid : Prop := kindElemsUptoRow.holds Try.pinned (OpenSpec.upto kindElemsSpec)

/-- 'squinchlaw03.KindArrays', WHERE WHAT IT READS IS OF BULK AT MOST 1048576: true; the input reads as it did. -/
def kindArraysUptoRow : OpenClaim := { program := "ythefgkllplodfaa", sum := "f4405ac4aad7665a672aa5221096cf15b680a60bc8962c553ace0323728edc60", func := "squinch/squinchlaw03.KindArrays", spec := "kindArrays", inPlace := ["internal/bytealg.IndexByteString", "internal/bytealg.IndexString"], unfollowed := true, recurses := true, named := ["internal/bytealg.MaxLen"], apart := false, narrowed := true }
def KindArraysUptoSaid : Prop := kindArraysUptoRow.holds Try.pinned (OpenSpec.upto kindArraysSpec)

/-- 'squinchlaw03.KindParts', WHERE WHAT IT READS IS OF BULK AT MOST 1048576: true; the input reads as it did. -/
def kindPartsUptoRow : OpenClaim := { program := "ythefgkllplodfaa", sum := "f4405ac4aad7665a672aa5221096cf15b680a60bc8962c553ace0323728edc60", func := "squinch/squinchlaw03.KindParts", spec := "kindParts", inPlace := ["internal/bytealg.IndexByteString", "internal/bytealg.IndexString"], unfollowed := true, recurses := true, named := ["internal/bytealg.MaxLen"], apart := false, narrowed := true }
def KindPartsUptoSaid : Prop := kindPartsUptoRow.holds Try.pinned (OpenSpec.upto kindPartsSpec)

/-- 'squinchlaw03.KindNames', WHERE WHAT IT READS IS OF BULK AT MOST 1048576: true; the input reads as it did. -/
def kindNamesUptoRow : OpenClaim := { program := "ythefgkllplodfaa", sum := "f4405ac4aad7665a672aa5221096cf15b680a60bc8962c553ace0323728edc60", func := "squinch/squinchlaw03.KindNames", spec := "kindNames", inPlace := ["internal/bytealg.IndexByteString", "internal/bytealg.IndexString"], unfollowed := true, recurses := true, named := ["internal/bytealg.MaxLen"], apart := false, narrowed := true }
def KindNamesUptoSaid : Prop := kindNamesUptoRow.holds Try.pinned (OpenSpec.upto kindNamesSpec)

/-- 'squinchlaw03.KindUnwraps', WHERE WHAT IT READS IS OF BULK AT MOST 1048576: true; the input reads as it did. -/
def kindUnwrapsUptoRow : OpenClaim := { program := "ythefgkllplodfaa", sum := "f4405ac4aad7665a672aa5221096cf15b680a60bc8962c553ace0323728edc60", func := "squinch/squinchlaw03.KindUnwraps", spec := "kindUnwraps", inPlace := ["internal/bytealg.IndexByteString", "internal/bytealg.IndexString"], unfollowed := true, recurses := true, named := ["internal/bytealg.MaxLen"], apart := false, narrowed := true }
def KindUnwrapsUptoSaid : Prop := kindUnwrapsUptoRow.holds Try.pinned (OpenSpec.upto kindUnwrapsSpec)

end Rows
end Go.Proofs.Ythefgkllplodfaa
