/-
  Plain: where the four parts of a field that was written lie among the bytes, and what they are read as.
  Conditions: the field's numbers are within their types.
-/
import Derived.Test.YtlkgiloabonhhaaDoorFields
import Derived.Test.YtlkgiloabonhhaaDoorRound
namespace Go.Proofs.YtlkgiloabonhhaaDoor
open Go.RowKit
def Fld.four (f : Fld) : List UInt8 := Lib.uvarint f.n ++ (Lib.uvarint (Lib.zigzag f.i) ++ ([flagByte f.yes] ++ textBytes f.s))
def fours (fs : List Fld) : List UInt8 := fs.flatMap Fld.four
theorem fours_snoc (fs : List Fld) (k : Nat) (hk : k < fs.length) : fours (fs.take (k + 1)) = fours (fs.take k) ++ fs[k].four := by
  rw [List.take_succ_eq_append_getElem hk]
  unfold fours
  rw [List.flatMap_append]
  simp
theorem fours_split (fs : List Fld) (k : Nat) (hk : k < fs.length) : fours fs = fours (fs.take k) ++ (fs[k].four ++ fours (fs.drop (k + 1))) := by
  have e : fs = fs.take k ++ (fs[k] :: fs.drop (k + 1)) := by rw [List.getElem_cons_drop, List.take_append_drop]
  have h : fours fs = fours (fs.take k ++ (fs[k] :: fs.drop (k + 1))) := congrArg fours e
  rw [h]
  unfold fours
  rw [List.flatMap_append, List.flatMap_cons]
theorem four_le (f : Fld) (ho : f.Ok) (hs : f.s.length ≤ 300) : f.four.length ≤ 331 := by
  have h1 := Lib.uvarint_length64 ho.n
  have h2 := Lib.uvarint_length64 (Lib.zigzag_lt ho.i.1 ho.i.2)
  have h3 := textBytes_le f.s (by omega)
  simp only [Fld.four, List.length_append, List.length_singleton]
  omega
/-- What a reader at p meets. -/
structure FourAt (l : List UInt8) (p : Nat) (f : Fld) (k0 k1 k3 : Nat) : Prop where
  a0 : numFrom 0 0 (l.drop p) = (0, f.n, k0)
  a1 : numFrom 0 0 (l.drop (p + k0)) = (0, Lib.zigzag f.i, k1)
  lt : p + k0 + k1 < l.length
  a2 : l[p + k0 + k1] = flagByte f.yes
  a3 : numFrom 0 0 (l.drop (p + k0 + k1 + 1)) = (0, f.s.length, k3)
  a4 : (l.drop (p + k0 + k1 + 1 + k3)).take f.s.length = f.s
  fin : p + k0 + k1 + 1 + k3 + f.s.length = p + f.four.length
  le : p + k0 + k1 + 1 + k3 + f.s.length ≤ l.length
theorem drop_pre (a b : List UInt8) (n : Nat) (h : n = a.length) : (a ++ b).drop n = b := by subst h; simp
theorem four_at (pre post : List UInt8) (f : Fld) (ho : f.Ok) (hs : f.s.length ≤ 300) : ∃ k0 k1 k3, FourAt (pre ++ (f.four ++ post)) pre.length f k0 k1 k3 := by
  refine ⟨(Lib.uvarint f.n).length, (Lib.uvarint (Lib.zigzag f.i)).length, (Lib.uvarint f.s.length).length, ?_⟩
  have e0 : pre ++ (f.four ++ post) = pre ++ (Lib.uvarint f.n ++ (Lib.uvarint (Lib.zigzag f.i) ++ ([flagByte f.yes] ++ (Lib.uvarint f.s.length ++ (f.s ++ post))))) := by
    simp [Fld.four, textBytes]
  have e1 : pre ++ (f.four ++ post) = (pre ++ Lib.uvarint f.n) ++ (Lib.uvarint (Lib.zigzag f.i) ++ ([flagByte f.yes] ++ (Lib.uvarint f.s.length ++ (f.s ++ post)))) := by rw [e0]; simp
  have e2 : pre ++ (f.four ++ post) = (pre ++ Lib.uvarint f.n ++ Lib.uvarint (Lib.zigzag f.i)) ++ (flagByte f.yes :: (Lib.uvarint f.s.length ++ (f.s ++ post))) := by rw [e0]; simp
  have e3 : pre ++ (f.four ++ post) = (pre ++ Lib.uvarint f.n ++ Lib.uvarint (Lib.zigzag f.i) ++ [flagByte f.yes]) ++ (Lib.uvarint f.s.length ++ (f.s ++ post)) := by rw [e0]; simp
  have e4 : pre ++ (f.four ++ post) = (pre ++ Lib.uvarint f.n ++ Lib.uvarint (Lib.zigzag f.i) ++ [flagByte f.yes] ++ Lib.uvarint f.s.length) ++ (f.s ++ post) := by rw [e0]; simp
  have hl : (pre ++ (f.four ++ post)).length = pre.length + (Lib.uvarint f.n).length + (Lib.uvarint (Lib.zigzag f.i)).length + 1 + (Lib.uvarint f.s.length).length + f.s.length + post.length := by rw [e4]; simp; omega
  refine ⟨?_, ?_, ?_, ?_, ?_, ?_, ?_, ?_⟩
  · rw [e0, drop_pre _ _ _ rfl]; exact num_var f.n ho.n _
  · rw [e1, drop_pre _ _ _ (by simp)]; exact num_var _ (Lib.zigzag_lt ho.i.1 ho.i.2) _
  · rw [hl]; omega
  · have hq : (pre ++ (f.four ++ post))[pre.length + (Lib.uvarint f.n).length + (Lib.uvarint (Lib.zigzag f.i)).length]? = some (flagByte f.yes) := by
      rw [e2, List.getElem?_append_right (by simp only [List.length_append]; omega), show pre.length + (Lib.uvarint f.n).length + (Lib.uvarint (Lib.zigzag f.i)).length - (pre ++ Lib.uvarint f.n ++ Lib.uvarint (Lib.zigzag f.i)).length = 0 from by simp only [List.length_append]; omega]
      rfl
    exact (List.getElem?_eq_some_iff.1 hq).2
  · rw [e3, drop_pre _ _ _ (by simp only [List.length_append, List.length_singleton])]; exact num_var _ (by omega) _
  · rw [e4, drop_pre _ _ _ (by simp only [List.length_append, List.length_singleton])]; simp
  · simp [Fld.four, textBytes]; omega
  · rw [hl]; omega
end Go.Proofs.YtlkgiloabonhhaaDoor
