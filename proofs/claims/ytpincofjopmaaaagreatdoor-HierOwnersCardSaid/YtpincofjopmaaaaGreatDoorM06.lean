/-
  The contracts of package pack's writer, the second half: Flag, Text, Bytes.
  The contracts of package pack's reader, the inner part: Left, next, number: what a reader reads of its bytes as a number, by the rules of the document.
  The contracts of package pack's reader, the outer part: Read, Num, Int, Flag, Err, End.
  The shelf's contract of unicode/utf8.ValidString, laid at this translation: which numbers its functions, types and variables have here.
  Conditions: as each text of it says.
-/
import Derived.Test.YtpincofjopmaaaaGreatDoorM05
import Derived.Deep.QuietTactic
import Derived.BigQuiet
import Derived.Lib.VarintBits
import Derived.Laws.ShiftsVarLaws
import Derived.Ground.NamesProg
import Derived.Shelf.Unicode.ValidAny
import Derived.Test.YtpincofjopmaaaaGreatDoorProg
namespace Go.Proofs.YtpincofjopmaaaaGreatDoor
open Go.RowKit
def flagByte (f : Bool) : UInt8 := if f then 1 else 0
def textBytes (s : List UInt8) : List UInt8 := Lib.uvarint s.length ++ s
end Go.Proofs.YtpincofjopmaaaaGreatDoor
namespace Go.Proofs.YtpincofjopmaaaaGreatDoor
open Go.RowKit
theorem RdAt.drewN {w : World} {b : Nat} {v : Value} {l : List UInt8} {i err : Nat} (h : RdAt w b v l i err) (q : Nat) : RdAt (w.drewN q) b v l i err := ⟨h.blk, h.row, h.le, h.small⟩
end Go.Proofs.YtpincofjopmaaaaGreatDoor
namespace Go.Proofs.YtpincofjopmaaaaGreatDoor
open Go.RowKit
def Got (b : Nat) (v : Value) (l : List UInt8) (i err : Nat) (x : Value) (w : World) (e : Ending) (w' : World) : Prop :=
  e = .returned x ∧ Only (fun k => k = b) w w' ∧ RdAt w' b v l i err

theorem RdAt.alloc {w : World} {b : Nat} {v : Value} {l : List UInt8} {i err : Nat} (h : RdAt w b v l i err) (o : Obj) : RdAt (w.alloc o) b v l i err :=
  h.keep ((Only.refl (fun _ => False) w).alloc o) id (fun _ _ => id)
end Go.Proofs.YtpincofjopmaaaaGreatDoor
namespace Go.Proofs.YtpincofjopmaaaaGreatDoor
open Go.Shelf
def laysRen : Go.Shelf.Ren := ⟨fun | 196 => 253 | 259 => 275 | n => n, fun | 9 => 9 | 4 => 4 | 3 => 3 | 5 => 5 | 12 => 12 | 119 => 268 | 0 => 0 | 46 => 272 | 139 => 271 | 138 => 270 | 53 => 213 | n => n, fun | 3 => 2 | 4 => 3 | n => n⟩
theorem laysValid : Lays.n196 Tryz.prog laysRen := {
  mixed := by kernel_rfl
  f196 := Tryz.func253.trans (congrArg some (by kernel_rfl))
  f259 := Tryz.func275.trans (congrArg some (by kernel_rfl))
  t0 := Tryz.underlying0
  a0 := Tryz.isAgg0
  z0 := Tryz.sizeOf0
  v0 := Tryz.zeroValue0
  t3 := Tryz.underlying3
  a3 := Tryz.isAgg3
  z3 := Tryz.sizeOf3
  v3 := Tryz.zeroValue3
  t4 := Tryz.underlying4
  a4 := Tryz.isAgg4
  z4 := Tryz.sizeOf4
  v4 := Tryz.zeroValue4
  t5 := Tryz.underlying5
  a5 := Tryz.isAgg5
  z5 := Tryz.sizeOf5
  v5 := Tryz.zeroValue5
  t9 := Tryz.underlying9
  a9 := Tryz.isAgg9
  z9 := Tryz.sizeOf9
  v9 := Tryz.zeroValue9
  t12 := Tryz.underlying12
  a12 := Tryz.isAgg12
  z12 := Tryz.sizeOf12
  v12 := Tryz.zeroValue12
  t46 := Tryz.underlying272
  a46 := Tryz.isAgg272
  z46 := Tryz.sizeOf272
  v46 := Tryz.zeroValue272
  t53 := Tryz.underlying213
  a53 := Tryz.isAgg213
  z53 := Tryz.sizeOf213
  v53 := Tryz.zeroValue213
  t119 := Tryz.underlying268
  a119 := Tryz.isAgg268
  z119 := Tryz.sizeOf268
  t138 := Tryz.underlying270
  a138 := Tryz.isAgg270
  z138 := Tryz.sizeOf270
  v138 := Tryz.zeroValue270
  t139 := Tryz.underlying271
  a139 := Tryz.isAgg271
  z139 := Tryz.sizeOf271
  v139 := Tryz.zeroValue271
  g3 := by kernel_rfl
  g4 := by kernel_rfl }
end Go.Proofs.YtpincofjopmaaaaGreatDoor
