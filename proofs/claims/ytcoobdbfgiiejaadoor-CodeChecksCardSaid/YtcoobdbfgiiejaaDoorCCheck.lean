/-
  The contracts of strings.Contains at a line feed, and of package code's allows, Check and Takes.
  Conditions: the tables of operators and of unicode/utf8 hold what they hold at the start; texts have at most 2^40 bytes.
-/
import Derived.Test.YtcoobdbfgiiejaaDoorCFind
import Derived.Test.YtcoobdbfgiiejaaDoorKElem
import Derived.Test.YtcoobdbfgiiejaaDoorText
namespace Go.Proofs.YtcoobdbfgiiejaaDoor
open Go.RowKit
/-- Both tables of unicode/utf8 and the table of operators are as at the start. -/
structure CT (w : World) : Prop where
  tabs : Tabs w
  ops : OpTab w
theorem CT.keep {w w' : World} (h : CT w) (hb : Below w.heap.size w w') : CT w' := ⟨Utf8Tabs_below h.tabs hb, h.ops.keep hb⟩
set_option maxHeartbeats 2000000 in
set_option maxRecDepth 100000 in
theorem indexlf_any (s : ByteArray) (w : World) :
    Calls Tryd.prog 66 #[.string s, .string ⟨#[10]⟩] w fun e w' => e = .returned (.int .i64 (Lib.indexByte s.data.toList 10)) ∧ w = w' := by
  go_enter Tryd.func66, Tryd.ntmps66
  go_wp2_with (go_at_call 78; refine (indexbyte_any _ _ _).mono ?_; rintro e w' ⟨rfl, rfl⟩)
  · have h : ([10] == s.toList) = true := by assumption
    go_ret
    refine ⟨?_, rfl⟩
    have e : s.data.toList = [10] := by rw [← Lib.toList_data]; exact (beq_iff_eq.1 h).symm
    rw [e]
    simp [Lib.indexByte]
  · go_ret
    exact ⟨rfl, rfl⟩
theorem indexByte_has (l : List UInt8) (c : UInt8) : decide (0 ≤ Lib.indexByte l c) = l.contains c := by
  induction l with
  | nil => rfl
  | cons b l ih =>
    have h1 := Lib.indexByte_ge l c
    rw [Lib.indexByte, List.contains_cons, ← ih]
    cases hb : (b == c) with
    | true =>
      have : (c == b) = true := by rw [beq_iff_eq] at hb ⊢; exact hb.symm
      simp [this]
    | false =>
      have : (c == b) = false := by rw [beq_eq_false_iff_ne] at hb ⊢; exact fun h => hb h.symm
      rw [this, Bool.false_or]
      by_cases h : Lib.indexByte l c = -1
      · simp [h]
      · have h2 : (Lib.indexByte l c == -1) = false := by rw [beq_eq_false_iff_ne]; exact h
        simp only [h2, Bool.false_eq_true, if_false]
        exact decide_eq_decide.2 (by omega)
set_option maxHeartbeats 400000 in
set_option maxRecDepth 100000 in
theorem contains_any (l : List UInt8) (w : World) :
    Calls Tryd.prog 39 #[.string (S l), .string ⟨#[10]⟩] w fun e w' => e = .returned (.bool (l.contains 10)) ∧ w = w' := by
  have HIX := Lib.hid (indexlf_any (S l) w)
  rw [← indexByte_has]
  generalize hz : Lib.indexByte l 10 = z at HIX ⊢
  rw [S_list, hz] at HIX
  clear hz
  have hsi : Calls Tryd.prog 53 #[.string (S l), .string ⟨#[10]⟩] w fun e w' => e = .returned (.int .i64 z) ∧ w = w' := by
    go_enter Tryd.func53, Tryd.ntmps53
    go_wp2_with (go_at_call 66; refine HIX.out.mono ?_; rintro e w' ⟨rfl, rfl⟩)
    go_ret
    exact ⟨rfl, rfl⟩
  have HS := Lib.hid hsi
  clear hsi HIX
  go_enter Tryd.func39, Tryd.ntmps39
  go_wp2_with (go_at_call 53; refine HS.out.mono ?_; rintro e w' ⟨rfl, rfl⟩)
  go_ret
  exact ⟨rfl, rfl⟩
/-- May a text stand with an operator that has this? -/
def allowsB (h : Nat) (s : List UInt8) : Bool :=
  if h = 2 then decide (s.length ≤ 64) && Lib.validD s && !s.contains 10
  else if h = 3 then classB s
  else if h = 4 then classB s || decide (0 < depN s)
  else if h = 5 then rightB s && decide (deepN s ≤ 2)
  else if h = 6 then partsB s
  else s == []
set_option maxHeartbeats 2000000 in
set_option maxRecDepth 100000 in
theorem allows_any (h : Nat) (l : List UInt8) (w : World) (hT : CT w) (hlim : l.length ≤ 1099511627776) :
    Calls Tryd.prog 18 #[.int .i64 h, .string (S l)] w (Said (allowsB h l) w) := by
  have HT := Lib.hid hT
  clear hT
  unfold allowsB
  by_cases h2 : h = 2
  · subst h2
    rw [if_pos rfl]
    have hsz : ((S l).size : Int) = (l.length : Int) := by rw [S_size]
    have HV := Lib.hid (valid_any l w (by omega) HT.out.tabs)
    have HC : Hid (∀ w, Calls Tryd.prog 39 #[.string (S l), .string ⟨#[10]⟩] w fun e w' => e = .returned (.bool (l.contains 10)) ∧ w = w') := fun w => contains_any l w
    by_cases h64 : l.length ≤ 64
    · have h64' : (l.length : Int) ≤ 64 := by omega
      rw [decide_eq_true h64, Bool.true_and]
      generalize Lib.validD l = v at HV ⊢
      generalize l.contains 10 = c at HC ⊢
      go_enter Tryd.func18, Tryd.ntmps18
      cases v
      · go_wp2_with (first | (go_at_call 38; refine HV.out.mono ?_; rintro e w' ⟨rfl, hbv⟩) | (go_at_call 39; refine (HC.out _).mono ?_; rintro e w' ⟨rfl, rfl⟩))
        go_ret
        exact ⟨rfl, hbv⟩
      · go_wp2_with (first | (go_at_call 38; refine HV.out.mono ?_; rintro e w' ⟨rfl, hbv⟩) | (go_at_call 39; refine (HC.out _).mono ?_; rintro e w' ⟨rfl, rfl⟩))
        go_ret
        exact ⟨rfl, hbv⟩
    · have h64' : (64 : Int) < (l.length : Int) := by omega
      rw [decide_eq_false h64, Bool.false_and, Bool.false_and]
      go_enter Tryd.func18, Tryd.ntmps18
      go_wp2
      go_ret
      exact ⟨rfl, Below.refl _ _⟩
  rw [if_neg h2]
  have e2 : ((h : Int) == 2) = false := by rw [beq_eq_false_iff_ne]; omega
  by_cases h3 : h = 3
  · subst h3
    rw [if_pos rfl]
    have HC := Lib.hid (class_any l w hlim)
    generalize classB l = c at HC ⊢
    go_enter Tryd.func18, Tryd.ntmps18
    go_wp2_with (go_at_call 40; refine HC.out.mono ?_; rintro e w' ⟨rfl, hb⟩)
    go_ret
    exact ⟨rfl, hb⟩
  rw [if_neg h3]
  have e3 : ((h : Int) == 3) = false := by rw [beq_eq_false_iff_ne]; omega
  by_cases h4 : h = 4
  · subst h4
    rw [if_pos rfl]
    have HC := Lib.hid (class_any l w hlim)
    have HD : Hid (∀ w, Calls Tryd.prog 41 #[.string (S l)] w (SaidN (depN l) w)) := fun w => deep_any l w hlim
    generalize classB l = c at HC ⊢
    generalize depN l = d at HD ⊢
    go_enter Tryd.func18, Tryd.ntmps18
    cases c
    · go_wp2_with (first | (go_at_call 40; refine HC.out.mono ?_; rintro e w' ⟨rfl, hb⟩) | (go_at_call 41; refine (HD.out _).mono ?_; rintro e w'' ⟨rfl, hb2⟩))
      go_ret
      refine ⟨?_, hb.trans (hb2.mono hb.size)⟩
      rw [Bool.false_or]
      rfl
    · go_wp2_with (first | (go_at_call 40; refine HC.out.mono ?_; rintro e w' ⟨rfl, hb⟩) | (go_at_call 41; refine (HD.out _).mono ?_; rintro e w'' ⟨rfl, hb2⟩))
      go_ret
      exact ⟨rfl, hb⟩
  rw [if_neg h4]
  have e4 : ((h : Int) == 4) = false := by rw [beq_eq_false_iff_ne]; omega
  by_cases h5 : h = 5
  · subst h5
    rw [if_pos rfl]
    by_cases hr : rightB l = true ∧ deepN l ≤ 2
    · rw [hr.1, decide_eq_true hr.2]
      have HO := Lib.hid (of_yes l w hlim hr.1 hr.2)
      clear hr
      go_enter Tryd.func18, Tryd.ntmps18
      go_wp2_with (go_at_call 42; refine HO.out.mono ?_; rintro e w' ⟨rfl, hb⟩)
      go_ret
      exact ⟨rfl, hb⟩
    · have hf : (rightB l && decide (deepN l ≤ 2)) = false := by
        rw [Bool.eq_false_iff]
        intro hh
        rw [Bool.and_eq_true, decide_eq_true_eq] at hh
        exact hr hh
      rw [hf]
      have HO := Lib.hid (of_no l w hlim hr)
      clear hr hf
      go_enter Tryd.func18, Tryd.ntmps18
      go_wp2_with (go_at_call 42; refine HO.out.mono ?_; rintro e w' ⟨rfl, hb⟩)
      go_ret
      exact ⟨rfl, hb⟩
  rw [if_neg h5]
  have e5 : ((h : Int) == 5) = false := by rw [beq_eq_false_iff_ne]; omega
  by_cases h6 : h = 6
  · subst h6
    rw [if_pos rfl]
    cases hp : partsB l
    · have HO := Lib.hid (parts_no l w hlim hp)
      clear hp
      go_enter Tryd.func18, Tryd.ntmps18
      go_wp2_with (go_at_call 43; refine HO.out.mono ?_; rintro e w' ⟨rfl, hb⟩)
      go_ret
      exact ⟨rfl, hb⟩
    · have HO := Lib.hid (parts_yes l w hlim hp)
      clear hp
      go_enter Tryd.func18, Tryd.ntmps18
      go_wp2_with (go_at_call 43; refine HO.out.mono ?_; rintro e w' ⟨rfl, hb⟩)
      go_ret
      exact ⟨rfl, hb⟩
  rw [if_neg h6]
  have e6 : ((h : Int) == 6) = false := by rw [beq_eq_false_iff_ne]; omega
  have es := S_toList l
  go_enter Tryd.func18, Tryd.ntmps18
  go_wp2
  go_ret
  refine ⟨?_, Below.refl _ _⟩
  show Ending.returned (.bool l.isEmpty) = .returned (.bool (l == []))
  cases l <;> rfl
/-- What Check answers. -/
def checkE (op : List UInt8) (n : Int) (s : List UInt8) : Nat :=
  if idx op < 42 then (if hasAt (idx op) ≠ 1 ∧ n ≠ 0 then 41 else if allowsB (hasAt (idx op)) s then 0 else 41) else 40
/-- An instruction's value. -/
abbrev insV (op : List UInt8) (n : Int) (s : List UInt8) : Value := .agg #[.string (S op), .int .i64 n, .string (S s)]
theorem SaidN_below {n : Nat} {w : World} {e : Ending} {w' : World} (h : SaidN n w e w') : e = .returned (.int .i64 n) ∧ Below w.heap.size w w' := h
set_option maxHeartbeats 2000000 in
set_option maxRecDepth 100000 in
theorem check_any (op : List UInt8) (n : Int) (s : List UInt8) (w : World) (hT : CT w) (hlim : s.length ≤ 1099511627776) :
    Calls Tryd.prog 9 #[insV op n s] w fun e w' => e = .returned (.int .i64 (checkE op n s : Nat)) ∧ Below w.heap.size w w' := by
  have HT := Lib.hid hT
  clear hT
  go_enter Tryd.func9, Tryd.ntmps9
  go_wp2_with fail
  have hb0 : Below w.heap.size w (w.alloc (.cells #[.string (S op), .int .i64 n, .string (S s)] 23)) := (Below.refl _ w).alloc (Nat.le_refl _) _
  refine (cnamed_any op _ (HT.out.ops.keep hb0)).mono ?_
  rintro e w1 ⟨rfl, hb1⟩
  have hi1 : w1.heap[w.heap.size]? = some (.cells #[.string (S op), .int .i64 n, .string (S s)] 23 (0, 0)) := (Only.ofBelow (S := fun _ => False) hb1).heap (heap_alloc_new w _) id
  have hbw : Below w.heap.size w w1 := hb0.trans (hb1.mono hb0.size)
  clear hb1 hb0
  have hcN : w1.cell? ⟨w.heap.size, 1, none⟩ = some (.int .i64 n) := by simp [World.cell?, hi1]
  have hcS : w1.cell? ⟨w.heap.size, 2, none⟩ = some (.string (S s)) := by simp [World.cell?, hi1]
  have hsz : w.heap.size < w1.heap.size := lt_of_block hi1
  clear hi1
  have hbA : ∀ o : Obj, Below w.heap.size w (w1.alloc o) := fun o => hbw.alloc hbw.size o
  unfold lookV
  generalize nameAt (idx op) = nm
  by_cases hN : idx op < 42
  · rw [if_pos hN, decide_eq_true hN]
    have hE : checkE op n s = (if hasAt (idx op) ≠ 1 ∧ n ≠ 0 then 41 else if allowsB (hasAt (idx op)) s then 0 else 41) := if_pos hN
    generalize hasAt (idx op) = h at hE ⊢
    generalize idx op = q
    have HA : Hid (∀ o : Obj, Calls Tryd.prog 18 #[.int .i64 h, .string (S s)] (w1.alloc o) (Said (allowsB h s) (w1.alloc o))) := fun o => allows_any h s _ (HT.out.keep (hbA o)) hlim
    generalize allowsB h s = ok at HA hE
    have HB := Lib.hid hbA
    clear hbA hbw hN
    by_cases h1 : h = 1
    · subst h1
      rw [if_neg (by simp)] at hE
      cases ok
      · have HE := Lib.hid hE
        clear hE
        go_wp2_with (go_at_call 18; refine (HA.out _).mono ?_; rintro e w' ⟨rfl, hb⟩)
        go_ret
        exact ⟨by rw [HE.out]; rfl, (HB.out _).trans (hb.mono (HB.out _).size)⟩
      · have HE := Lib.hid hE
        clear hE
        go_wp2_with (go_at_call 18; refine (HA.out _).mono ?_; rintro e w' ⟨rfl, hb⟩)
        go_ret
        exact ⟨by rw [HE.out]; rfl, (HB.out _).trans (hb.mono (HB.out _).size)⟩
    · have e1 : ((h : Int) == 1) = false := by rw [beq_eq_false_iff_ne]; omega
      have e1' : ((h : Int) != 1) = true := by rw [bne_iff_ne]; omega
      by_cases hn : n = 0
      · subst hn
        rw [if_neg (by simp)] at hE
        cases ok
        · have HE := Lib.hid hE
          clear hE
          go_wp2_with (go_at_call 18; refine (HA.out _).mono ?_; rintro e w' ⟨rfl, hb⟩)
          go_ret
          exact ⟨by rw [HE.out]; rfl, (HB.out _).trans (hb.mono (HB.out _).size)⟩
        · have HE := Lib.hid hE
          clear hE
          go_wp2_with (go_at_call 18; refine (HA.out _).mono ?_; rintro e w' ⟨rfl, hb⟩)
          go_ret
          exact ⟨by rw [HE.out]; rfl, (HB.out _).trans (hb.mono (HB.out _).size)⟩
      · rw [if_pos ⟨h1, hn⟩] at hE
        have HE := Lib.hid hE
        clear hE
        have e2 : (n != 0) = true := by rw [bne_iff_ne]; exact hn
        go_wp2
        go_ret
        exact ⟨by rw [HE.out]; rfl, HB.out _⟩
  · have HE : Hid (checkE op n s = 40) := Lib.hid (if_neg hN)
    rw [if_neg hN, decide_eq_false hN]
    generalize hasAt (idx op) = h
    have HB := Lib.hid hbA
    clear hbA hbw hN
    go_wp2
    go_ret
    exact ⟨by rw [HE.out]; rfl, HB.out _⟩
set_option maxHeartbeats 2000000 in
set_option maxRecDepth 100000 in
theorem takes_any (op : List UInt8) (w : World) (hT : CT w) :
    Calls Tryd.prog 7 #[.string (S op)] w fun e w' => e = .returned (.tuple #[.bool (hasAt (idx op) == 1), .bool (decide (2 ≤ hasAt (idx op))), .bool (decide (idx op < 42))]) ∧ Below w.heap.size w w' := by
  have HT := Lib.hid hT
  clear hT
  obtain ⟨h, hh⟩ : ∃ h, h = hasAt (idx op) := ⟨_, rfl⟩
  obtain ⟨d, hd⟩ : ∃ d, d = decide (idx op < 42) := ⟨_, rfl⟩
  have HN := Lib.hid (cnamed_any op w HT.out.ops)
  unfold lookV at HN
  rw [← hh, ← hd] at HN ⊢
  clear hh hd
  generalize (if idx op < 42 then idx op else 0) = q at HN
  generalize nameAt (idx op) = nm at HN
  have HI : Hid (∀ w, Calls Tryd.prog 16 #[.int .i64 h] w fun e w' => e = .returned (.bool (decide (2 ≤ h))) ∧ w = w') := fun w => istext_any h w
  generalize decide (2 ≤ h) = tx at HI ⊢
  have e1 : ((h : Int) == 1) = (h == 1) := by rw [Bool.eq_iff_iff, beq_iff_eq, beq_iff_eq]; omega
  generalize (h == 1) = nb at e1 ⊢
  go_enter Tryd.func7, Tryd.ntmps7
  go_wp2_with (go_at_call 15; refine HN.out.mono ?_; rintro e w1 ⟨rfl, hb⟩)
  go_quiet ((go_at_call 16; exact Calls.quiet_of_same ((HI.out _).mono (fun _ _ h => ⟨h.1, h.2.symm⟩))))
  go_wp2
  go_ret3
  have hA : Below w.heap.size w (w1.alloc (.cells #[.string (S nm), .int .i64 (h : Nat)] 43)) := hb.alloc hb.size _
  exact ⟨rfl, ⟨hA.os, hA.tape, hA.output, hA.size, hA.block⟩⟩
end Go.Proofs.YtcoobdbfgiiejaaDoor
