/-
  Plain mathematics of kinds: which lists of bytes are names, classes, members and kinds, how deep, and of what elements.
  Conditions: none; no program is named here.
-/
namespace Go.Proofs.YtcoobdbfgiiejaaGreatDoor

def letterB (c : UInt8) : Bool := (decide (97 ≤ c.toNat) && decide (c.toNat ≤ 122)) || (decide (65 ≤ c.toNat) && decide (c.toNat ≤ 90))
def digitB (c : UInt8) : Bool := decide (48 ≤ c.toNat) && decide (c.toNat ≤ 57)
/-- May this byte stand at this place of a name? -/
def okAt (i : Nat) (c : UInt8) : Bool := letterB c || (decide (i ≠ 0) && digitB c)
/-- All bytes up to the place k may stand where they do. -/
def okTo (l : List UInt8) (k : Nat) : Bool := (List.range k).all fun i => okAt i (l.getD i 0)
def nameB (l : List UInt8) : Bool := okTo l l.length && (decide (1 ≤ l.length) && decide (l.length ≤ 32))
def classB (l : List UInt8) : Bool := nameB l && decide ((l.getD 0 0).toNat ≤ 90)
def memberB (l : List UInt8) : Bool := nameB l && decide (97 ≤ (l.getD 0 0).toNat)
def kInt : List UInt8 := [105, 110, 116]
def kBool : List UInt8 := [98, 111, 111, 108]
def kText : List UInt8 := [116, 101, 120, 116]
def plainB (l : List UInt8) : Bool := decide (l = kInt) || decide (l = kBool) || decide (l = kText)
/-- Do these bytes end with a pair of brackets? -/
def endsB (l : List UInt8) : Bool := decide (2 ≤ l.length) && decide (l.drop (l.length - 2) = [91, 93])
/-- How many pairs of brackets stand at the end. -/
def deepN (l : List UInt8) : Nat := if h : endsB l = true then deepN (l.take (l.length - 2)) + 1 else 0
  termination_by l.length
  decreasing_by
    have : 2 ≤ l.length := by
      unfold endsB at h
      simp at h
      exact h.1
    rw [List.length_take]
    omega
theorem endsB_two {l : List UInt8} (h : endsB l = true) : 2 ≤ l.length := by
  unfold endsB at h
  simp at h
  exact h.1
theorem deepN_ends {l : List UInt8} (h : endsB l = true) : deepN l = deepN (l.take (l.length - 2)) + 1 := by rw [deepN, dif_pos h]
theorem deepN_not {l : List UInt8} (h : endsB l = false) : deepN l = 0 := by rw [deepN, dif_neg (by rw [h]; decide)]
theorem deepN_le (l : List UInt8) : 2 * deepN l ≤ l.length := by
  cases h : endsB l with
  | true =>
    have h2 := endsB_two h
    have ih := deepN_le (l.take (l.length - 2))
    rw [List.length_take] at ih
    rw [deepN_ends h]
    omega
  | false => rw [deepN_not h]; omega
  termination_by l.length
  decreasing_by rw [List.length_take]; omega
/-- What is ahead of the brackets. -/
def baseL (l : List UInt8) : List UInt8 := l.take (l.length - 2 * deepN l)
theorem baseL_length (l : List UInt8) : (baseL l).length = l.length - 2 * deepN l := by unfold baseL; rw [List.length_take]; omega
def baseB (l : List UInt8) : Bool := plainB l || classB l
def rightB (l : List UInt8) : Bool := decide (deepN l ≤ 3) && baseB (baseL l)
def elemL (l : List UInt8) : List UInt8 := if rightB l = true ∧ 1 ≤ deepN l then l.take (l.length - 2) else []
/-- Where the first point stands (behind the end: nowhere). -/
def dotAt (l : List UInt8) : Nat := l.findIdx (fun c => c == 46)
def partsB (l : List UInt8) : Bool := decide (dotAt l < l.length) && (classB (l.take (dotAt l)) && memberB (l.drop (dotAt l + 1)))

theorem okTo_succ (l : List UInt8) (k : Nat) : okTo l (k + 1) = (okTo l k && okAt k (l.getD k 0)) := by
  unfold okTo
  rw [List.range_succ, List.all_append]
  simp
theorem okTo_zero (l : List UInt8) : okTo l 0 = true := by simp [okTo]
theorem okTo_le (l : List UInt8) (k m : Nat) (hkm : k ≤ m) (h : okTo l k = false) : okTo l m = false := by
  unfold okTo at h ⊢
  rw [List.all_eq_false] at h ⊢
  obtain ⟨i, hi, hn⟩ := h
  exact ⟨i, by simp at hi ⊢; omega, hn⟩
theorem nameB_pos {l : List UInt8} (h : nameB l = true) : 1 ≤ l.length ∧ l.length ≤ 32 := by
  unfold nameB at h
  simp at h
  exact h.2
theorem nameB_ok {l : List UInt8} (h : nameB l = true) (i : Nat) (hi : i < l.length) : okAt i (l.getD i 0) = true := by
  unfold nameB okTo at h
  simp only [Bool.and_eq_true, List.all_eq_true] at h
  exact h.1 i (by simpa using hi)
/-- A name has no bracket. -/
theorem okAt_le (i : Nat) (c : UInt8) (h : okAt i c = true) : c ≠ 91 ∧ c ≠ 93 ∧ c ≠ 46 := by
  refine ⟨?_, ?_, ?_⟩ <;> (rintro rfl; revert h; unfold okAt; cases i <;> simp <;> decide)
theorem nameB_ends {l : List UInt8} (h : nameB l = true) : endsB l = false := by
  cases he : endsB l with
  | false => rfl
  | true =>
    exfalso
    have h2 := endsB_two he
    unfold endsB at he
    simp at he
    have hd : (l.drop (l.length - 2))[0]? = some 91 := by rw [he.2]; rfl
    rw [List.getElem?_drop, Nat.add_zero] at hd
    have hk : l.getD (l.length - 2) 0 = 91 := by simp [List.getD, hd]
    exact (okAt_le _ _ (nameB_ok h (l.length - 2) (by omega))).1 hk
theorem plainB_name {l : List UInt8} (h : plainB l = true) : nameB l = true := by
  unfold plainB at h
  simp at h
  rcases h with (h | h) | h <;> subst h <;> decide
theorem plainB_class {l : List UInt8} (h : plainB l = true) : classB l = false := by
  unfold plainB at h
  simp at h
  rcases h with (h | h) | h <;> subst h <;> decide
theorem classB_name {l : List UInt8} (h : classB l = true) : nameB l = true := by unfold classB at h; simp at h; exact h.1
theorem baseB_name {l : List UInt8} (h : baseB l = true) : nameB l = true := by
  unfold baseB at h
  simp at h
  rcases h with h | h
  · exact plainB_name h
  · exact classB_name h
/-- Arrays of it. -/
def ofL (l : List UInt8) : List UInt8 := l ++ [91, 93]
theorem ofL_length (l : List UInt8) : (ofL l).length = l.length + 2 := by simp [ofL]
theorem ofL_ends (l : List UInt8) : endsB (ofL l) = true := by
  unfold endsB
  rw [ofL_length]
  simp [ofL]
theorem ofL_take (l : List UInt8) : (ofL l).take ((ofL l).length - 2) = l := by
  rw [ofL_length]
  simp [ofL]
theorem ofL_deep (l : List UInt8) : deepN (ofL l) = deepN l + 1 := by rw [deepN_ends (ofL_ends l), ofL_take]
theorem ofL_base (l : List UInt8) : baseL (ofL l) = baseL l := by
  have h := deepN_le l
  unfold baseL
  rw [ofL_deep, ofL_length]
  unfold ofL
  rw [List.take_append_of_le_length (by omega)]
  congr 1
  omega
theorem ends_of {l : List UInt8} (h : endsB l = true) : ofL (l.take (l.length - 2)) = l := by
  unfold endsB at h
  simp at h
  unfold ofL
  rw [← h.2]
  exact List.take_append_drop _ _
theorem deep_ends {l : List UInt8} (h : 1 ≤ deepN l) : endsB l = true := by
  cases he : endsB l with
  | true => rfl
  | false => rw [deepN_not he] at h; omega
theorem ofL_right (l : List UInt8) : rightB (ofL l) = (rightB l && decide (deepN l ≤ 2)) := by
  unfold rightB
  rw [ofL_deep, ofL_base]
  by_cases h : deepN l ≤ 2
  · have h3 : deepN l ≤ 3 := by omega
    simp [h, h3]
  · simp [h]
theorem elem_of (l : List UInt8) (h : rightB l = true) (hd : deepN l ≤ 2) : elemL (ofL l) = l := by
  unfold elemL
  rw [if_pos ⟨by rw [ofL_right, h]; simpa using hd, by rw [ofL_deep]; omega⟩, ofL_take]
theorem elem_right {l : List UInt8} (h : rightB l = true) (hd : 1 ≤ deepN l) : rightB (elemL l) = true ∧ deepN (elemL l) = deepN l - 1 ∧ ofL (elemL l) = l := by
  have he := deep_ends hd
  have e1 : elemL l = l.take (l.length - 2) := by unfold elemL; rw [if_pos ⟨h, hd⟩]
  have e2 : ofL (elemL l) = l := by rw [e1]; exact ends_of he
  have e3 := ofL_right (elemL l)
  have e4 := ofL_deep (elemL l)
  rw [e2] at e3 e4
  rw [h] at e3
  have e5 : rightB (elemL l) = true := by
    cases hr : rightB (elemL l) with
    | true => rfl
    | false => rw [hr] at e3; simp at e3
  exact ⟨e5, by omega, e2⟩
theorem right_base {l : List UInt8} (h : rightB l = true) : nameB (baseL l) = true := by
  unfold rightB at h
  simp at h
  exact baseB_name h.2
theorem base_deep {l : List UInt8} (h : nameB l = true) : deepN l = 0 := deepN_not (nameB_ends h)
/-- A kind with brackets has three bytes at least. -/
theorem right_three {l : List UInt8} (h : rightB l = true) (hd : 1 ≤ deepN l) : 3 ≤ l.length := by
  have h1 := (nameB_pos (right_base h)).1
  rw [baseL_length] at h1
  omega
end Go.Proofs.YtcoobdbfgiiejaaGreatDoor
