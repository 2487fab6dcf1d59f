/-
  The laws' arguments that are slices of squinchref01.Field: what a field holds, where its cells lie.
  Conditions: none of its own.
-/
import Derived.Test.YtlkgiloabonhhaaDoorAwake
namespace Go.Proofs.YtlkgiloabonhhaaDoor
open Go.RowKit
/-- A field of the laws. -/
structure Fld where
  kind : Int
  most : Int
  n : Nat
  i : Int
  yes : Bool
  s : List UInt8
/-- Its numbers are within their types. -/
structure Fld.Ok (f : Fld) : Prop where
  kind : -9223372036854775808 ≤ f.kind ∧ f.kind ≤ 9223372036854775807
  most : -9223372036854775808 ≤ f.most ∧ f.most ≤ 9223372036854775807
  n : f.n < 18446744073709551616
  i : -9223372036854775808 ≤ f.i ∧ f.i ≤ 9223372036854775807
  s : f.s.length ≤ 9223372036854775807
/-- What came in reads as these fields: a slice, nil or not. -/
structure ArgFields (w : World) (ao : Option Addr) (cap : Nat) (fs : List Fld) : Prop where
  nil : ao = none → fs = [] ∧ cap = 0
  le : fs.length ≤ cap
  most : cap ≤ 9223372036854775807
  ok : ∀ f ∈ fs, f.Ok
  c0 : ∀ a, ao = some a → ∀ j f, fs[j]? = some f → w.cell? (a.add (j * 6)) = some (.int .i64 f.kind)
  c1 : ∀ a, ao = some a → ∀ j f, fs[j]? = some f → w.cell? (a.add (j * 6 + 1)) = some (.int .i64 f.most)
  c2 : ∀ a, ao = some a → ∀ j f, fs[j]? = some f → w.cell? (a.add (j * 6 + 2)) = some (.int .u64 f.n)
  c3 : ∀ a, ao = some a → ∀ j f, fs[j]? = some f → w.cell? (a.add (j * 6 + 3)) = some (.int .i64 f.i)
  c4 : ∀ a, ao = some a → ∀ j f, fs[j]? = some f → w.cell? (a.add (j * 6 + 4)) = some (.bool f.yes)
  c5 : ∀ a, ao = some a → ∀ j f, fs[j]? = some f → w.cell? (a.add (j * 6 + 5)) = some (.string (S f.s))
theorem ArgFields.below {w w' : World} {ao : Option Addr} {cap : Nat} {fs : List Fld} (h : ArgFields w ao cap fs) (hb : Below w.heap.size w w') : ArgFields w' ao cap fs :=
  have k : ∀ {a : Addr} {v : Value}, w.cell? a = some v → w'.cell? a = some v := fun hc => (Only.ofBelow (S := fun _ => False) hb).cell hc id
  ⟨h.nil, h.le, h.most, h.ok, fun a ha j f hj => k (h.c0 a ha j f hj), fun a ha j f hj => k (h.c1 a ha j f hj), fun a ha j f hj => k (h.c2 a ha j f hj), fun a ha j f hj => k (h.c3 a ha j f hj), fun a ha j f hj => k (h.c4 a ha j f hj), fun a ha j f hj => k (h.c5 a ha j f hj)⟩
/-- The bytes of a field that is written, by its kind. -/
def Fld.enc (f : Fld) : List UInt8 :=
  if f.kind = 0 then Lib.uvarint f.n else if f.kind = 1 then Lib.uvarint (Lib.zigzag f.i) else if f.kind = 3 then [flagByte f.yes, flagByte (!f.yes)] else if f.kind = 4 then textBytes f.s else []
theorem add_plain {a : Addr} {w : World} {v : Value} (h : w.cell? a = some v) : ∃ b off, a = ⟨b, off, none⟩ := by
  obtain ⟨b, off, sp⟩ := a
  cases sp with
  | none => exact ⟨b, off, rfl⟩
  | some q =>
    exfalso
    unfold World.cell? at h
    split at h
    · simp at h
    · cases h
end Go.Proofs.YtlkgiloabonhhaaDoor
