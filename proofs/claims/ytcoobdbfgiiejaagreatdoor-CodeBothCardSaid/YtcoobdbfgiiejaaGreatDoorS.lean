/-
  Strings: a list of bytes as a string, its length, its pieces.
  Conditions: none; no program is named here.
-/
import Derived.WalkKit
import Derived.WalkMore
import Derived.Lib.Hide
import Derived.Lib.Bytes
namespace Go.Proofs.YtcoobdbfgiiejaaGreatDoor
open Go.RowKit
theorem ret_int {k : IntKind} {a b : Int} (h : a = b) : Ending.returned (.int k a) = .returned (.int k b) := by rw [h]
/-- A list of bytes as a string. -/
def S (l : List UInt8) : ByteArray := ⟨l.toArray⟩
theorem S_size (l : List UInt8) : (S l).size = l.length := by simp [S, ByteArray.size]
theorem S_list (l : List UInt8) : (S l).data.toList = l := by simp [S]
theorem S_append (a b : List UInt8) : S a ++ S b = S (a ++ b) := by
  apply ByteArray.ext
  simp [S]
theorem S_toList (l : List UInt8) : (S l).toList = l := by rw [Go.Lib.toList_data]; exact S_list l
theorem S_get (l : List UInt8) (i : Nat) : (S l).get! i = l.getD i 0 := by
  unfold ByteArray.get! S
  simp [List.getD]
  rfl
theorem S_drop (l : List UInt8) (k : Nat) : (S l).extract k (S l).size = S (l.drop k) := by
  apply ByteArray.ext
  apply Array.ext'
  simp [S, ByteArray.size]
  apply List.take_of_length_le
  simp
theorem S_take (l : List UInt8) (k : Nat) : (S l).extract 0 k = S (l.take k) := by
  apply ByteArray.ext
  apply Array.ext'
  simp [S]
theorem S_data (s : ByteArray) : S s.data.toList = s := by
  apply ByteArray.ext
  simp [S]
theorem str_len (s : ByteArray) (h : s.size ≤ maxLen) : s.data.toList.length ≤ 9223372036854775807 := by
  have e : s.data.toList.length = s.size := Array.length_toList
  rw [e]
  exact h
/-- A byte of a string. -/
theorem S_at (l : List UInt8) (k : Nat) (hk : k < l.length) (h : k < (S l).size) : ((S l)[k]'h) = l.getD k 0 := by
  simp [S, List.getD, List.getElem?_eq_getElem hk]
  rfl
theorem S_sub (l : List UInt8) (i j : Nat) : (S l).extract i j = S ((l.take j).drop i) := by
  apply ByteArray.ext
  apply Array.ext'
  simp [S, List.drop_take]
end Go.Proofs.YtcoobdbfgiiejaaGreatDoor
